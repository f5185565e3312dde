import PyProof.Rows.All
import Wide.All
import OpenK.AllK
import Wide.FinOn
import HandS.ForMost
import HandS.IsInst
import HandS.Star
import HandS.WideBits
import HandS.Style
import HandS.Wide
import HandS.Flow
import HandS.TupAny
import HandS.Zip
import KE.GoesNew
import KE.GoesMore
import KE.KDictCopyH
import KE.GoesEnumKw
import HandS.Conv
import HandS.ForExc
import HandS.ExcInit
import HandS.ExcField
import KE.KExcIs
import HandS.ExcIs
import HandS.Codes
import HandS.Deep
import KE.DataMinMax
import KE.KDictKeyed
import KE.KDictWalk
import HandS.DictComp
import KE.DataFind
import HandS.More
import HandS.FromBytesMap
import HandS.SortKw
import HandS.Iter
import KE.SortKeyHeap
import HandS.TupLen
import PySem.Challenge.RW_sealround_k30_paths
set_option Elab.async false
set_option linter.all false
set_option maxRecDepth 100000
set_option maxHeartbeats 4000000
namespace Z
open PySem L2

/-- what a frame keeps (all; LayT leaves tables of code out) -/
class NTc (o : HO) : Prop where
  nt : True
instance (o : HO) : NTc o := ⟨trivial⟩
/-! ## one heap and the next: all but what stands in A is kept, tuples and what is locked always, nothing goes -/
structure Kp (A : List Addr) (H H' : Hp) : Prop where
  k : ∀ q o, q ∉ A → H q = some o → H' q = some o
  t : ∀ q xs, H q = some (.tup xs) → H' q = some (.tup xs)
  z : ∀ q o u, H q = some (.frz o u) → H' q = some (.frz o u)
  n : ∀ q, H' q = none → H q = none
theorem Kp.refl (A : List Addr) (H : Hp) : Kp A H H := ⟨fun _ _ _ h => h, fun _ _ h => h, fun _ _ _ h => h, fun _ h => h⟩
theorem Kp.tr {A B : List Addr} {H H1 H2 : Hp} (a : Kp A H H1) (b : Kp B H1 H2) (h : ∀ l ∈ B, l ∈ A ∨ H l = none) : Kp A H H2 :=
  ⟨fun q o hq e => b.k q o (fun m => (h q m).elim hq fun z => by rw [z] at e; cases e) (a.k q o hq e), fun q xs e => b.t q xs (a.t q xs e), fun q o u e => b.z q o u (a.z q o u e), fun q e => a.n q (b.n q e)⟩
theorem Kp.of {A : List Addr} {H H' : Hp} (k : ∀ q u, H q = some u → H' q = some u) (n : ∀ q, H' q = none → H q = none) : Kp A H H' := ⟨fun q u _ h => k q u h, fun q _ h => k q _ h, fun q _ _ h => k q _ h, n⟩
theorem Kp.tr0 {A : List Addr} {H H1 H2 : Hp} (a : Kp A H H1) (b : Kp [] H1 H2) : Kp A H H2 := a.tr b fun _ m => nomatch m
theorem Kp.tr1 {A : List Addr} {l : Addr} {H H1 H2 : Hp} (a : Kp A H H1) (b : Kp [l] H1 H2) (h : l ∈ A ∨ H l = none) : Kp A H H2 := a.tr b fun q m => by
  have e : q = l := by simpa using m
  rw [e]; exact h
theorem Kp.there {A : List Addr} {H H' : Hp} {q : Addr} {o : HO} (a : Kp A H H') (h : H q = some o) : H' q ≠ none := fun e => by
  rw [a.n q e] at h; cases h
theorem Kp.wk {A B : List Addr} {H H' : Hp} (a : Kp A H H') (h : ∀ l ∈ A, l ∈ B) : Kp B H H' := ⟨fun q o hq e => a.k q o (fun m => hq (h q m)) e, a.t, a.z, a.n⟩
theorem Kp.new {H : Hp} {p : Addr} {o : HO} (h : H p = none) : Kp [] H (upd H p o) := by
  have k : ∀ q u, H q = some u → upd H p o q = some u := fun q u e => by rw [upd_ne (ne_of_none e h)]; exact e
  refine ⟨fun q u _ e => k q u e, fun q xs e => k q _ e, fun q _ _ e => k q _ e, fun q e => ?_⟩
  cases hq : H q with
  | none => rfl
  | some u => rw [k q u hq] at e; cases e
/-- what may be changed -/
def Mu : HO → Bool
  | .tup _ => false
  | .frz _ _ => false
  | _ => true
theorem Kp.set {H : Hp} {l : Addr} {o u : HO} (h : H l = some u) (m : Mu u = true) : Kp [l] H (upd H l o) := by
  refine ⟨fun q u' hq e => ?_, fun q xs e => ?_, fun q o' u' e => ?_, fun q e => ?_⟩
  · rw [upd_ne (by simpa using hq)]; exact e
  · have ne : q ≠ l := fun z => by
      rw [z, h] at e; cases e; cases m
    rw [upd_ne ne]; exact e
  · have ne : q ≠ l := fun z => by
      rw [z, h] at e; cases e; cases m
    rw [upd_ne ne]; exact e
  · by_cases z : q = l
    · rw [z, upd_same] at e; cases e
    · rw [upd_ne z] at e; exact e
theorem Kp.tup {K : PySem.W.Frag} {A : List Addr} {H H' : Hp} {p : Addr} {xs : List V} (a : Kp A H H') (h : SqT K H p xs) : SqT K H' p xs := by
  rcases h with (h | ⟨o, h⟩) | h
  · exact .inl (.inl (a.t _ _ h))
  · exact .inl (.inr ⟨o, a.z _ _ _ h⟩)
  · exact .inr h
theorem Kp.lst {K : PySem.W.Frag} {A : List Addr} {H H' : Hp} {p : Addr} {xs : List V} (a : Kp A H H') (np : p ∉ A) (h : SqL K H p xs) : SqL K H' p xs := by
  rcases h with (h | ⟨o, h⟩) | h
  · exact .inl (.inl (a.k _ _ np h))
  · exact .inl (.inr ⟨o, a.z _ _ _ h⟩)
  · exact .inr h
theorem Kp.lst0 {K : PySem.W.Frag} {H H' : Hp} {p : Addr} {xs : List V} (a : Kp [] H H') (h : SqL K H p xs) : SqL K H' p xs := a.lst (by simp) h
theorem Kp.at {A : List Addr} {H H' : Hp} {p : Addr} {o : HO} (a : Kp A H H') (np : p ∉ A) (h : H p = .some o) : H' p = .some o := a.k _ _ np h
theorem Kp.at0 {H H' : Hp} {p : Addr} {o : HO} (a : Kp [] H H') (h : H p = .some o) : H' p = .some o := a.k _ _ (by simp) h
theorem Kp.at1 {H H' : Hp} {b p : Addr} {o : HO} (k : Kp [b] H H') (n : p ≠ b) (h : H p = .some o) : H' p = .some o := k.at (by simpa using n) h
theorem Kp.lst1 {K : PySem.W.Frag} {H H' : Hp} {b p : Addr} {xs : List V} (k : Kp [b] H H') (n : p ≠ b) (h : SqL K H p xs) : SqL K H' p xs := k.lst (by simpa using n) h
theorem Kp.same {H H' : Hp} (a : Kp [] H H') : Same H H' := fun q o e => a.at0 e
theorem SqT.of' {K : PySem.W.Frag} {H : Hp} {p : Addr} {xs : List V} (h : H p = .some (.tup xs)) : SqT K H p xs := .inl (.inl h)
theorem SqL.of' {K : PySem.W.Frag} {H : Hp} {p : Addr} {xs : List V} (h : H p = .some (.lst xs)) : SqL K H p xs := .inl (.inl h)
/-- a list that nothing changes (the script) -/
theorem ne_lst {K : PySem.W.Frag} {H : Hp} {p l : Addr} {o u : HO} (h : H p = .some o) (h' : H l = .some u) (d : o ≠ u) : p ≠ l := ne_of h h' d

/-! ## names and slots, by syntax alone -/
inductive At : List Str → St → Str → V → Prop
  | z {x : Str} {N : List Str} {v : V} {σ : St} : At (x :: N) (some v :: σ) x v
  | s {x y : Str} {N : List Str} {o : Option V} {v : V} {σ : St} : At N σ x v → At (y :: N) (o :: σ) x v
inductive Put : List Str → St → Str → V → St → Prop
  | z {x : Str} {N : List Str} {o : Option V} {v : V} {σ : St} : Put (x :: N) (o :: σ) x v (some v :: σ)
  | s {x y : Str} {N : List Str} {o : Option V} {v : V} {σ σ' : St} : Put N σ x v σ' → Put (y :: N) (o :: σ) x v (o :: σ')
inductive Mem : List Str → Str → Prop
  | z {x : Str} {N : List Str} : Mem (x :: N) x
  | s {x y : Str} {N : List Str} : Mem N x → Mem (y :: N) x
theorem At.ix {N : List Str} {σ : St} {x : Str} {v : V} (h : At N σ x v) : ∃ i : Nat, N[i]? = some x ∧ σ[i]? = some (some v) := by
  induction h with
  | z => exact ⟨0, rfl, rfl⟩
  | s _ ih => obtain ⟨i, a, b⟩ := ih; exact ⟨i + 1, by simpa using a, by simpa using b⟩
theorem Put.ix {N : List Str} {σ σ' : St} {x : Str} {v : V} (h : Put N σ x v σ') : ∃ i : Nat, N[i]? = some x ∧ σ.set i (some v) = σ' := by
  induction h with
  | z => exact ⟨0, rfl, rfl⟩
  | s _ ih => obtain ⟨i, a, b⟩ := ih; exact ⟨i + 1, by simpa using a, by simp [b]⟩
theorem Mem.mem {N : List Str} {x : Str} (h : Mem N x) : x ∈ N := by
  induction h with
  | z => simp
  | s _ ih => simp [ih]

/-! ## a block's scope: the names that it may read, may store; what it reads of the module -/
def okC (sc : Scope) (Vs Ls G : List Str) : Bool := Vs.all (fun x => sc.names.lookup x == some .local || sc.names.lookup x == some .cell || sc.names.lookup x == some .free) && Ls.all (fun x => sc.names.lookup x == some .local || sc.names.lookup x == some .cell) && G.all (fun x => sc.names.lookup x == some .globalImplicit)
theorem kind_of_beq : ∀ (a b : Option NameKind), (a == b) = true → a = b := fun a b h => by
  cases a <;> cases b <;> first | rfl | cases h | skip
  rename_i a b; cases a <;> cases b <;> first | rfl | cases h
theorem okC.vis {sc : Scope} {Vs Ls G : List Str} (h : okC sc Vs Ls G = true) {x : Str} (hx : x ∈ Vs) : Vis sc x := by
  unfold okC at h
  simp only [Bool.and_eq_true, List.all_eq_true, Bool.or_eq_true] at h
  rcases h.1.1 x hx with (q | q) | q
  · exact .inl (kind_of_beq _ _ q)
  · exact .inr (.inl (kind_of_beq _ _ q))
  · exact .inr (.inr (kind_of_beq _ _ q))
theorem okC.loc {sc : Scope} {Vs Ls G : List Str} (h : okC sc Vs Ls G = true) {x : Str} (hx : x ∈ Ls) : Loc sc x := by
  unfold okC at h
  simp only [Bool.and_eq_true, List.all_eq_true, Bool.or_eq_true] at h
  exact (h.1.2 x hx).imp (kind_of_beq _ _) (kind_of_beq _ _)
theorem okC.gl {sc : Scope} {Vs Ls G : List Str} (h : okC sc Vs Ls G = true) {x : Str} (hx : x ∈ G) : sc.names.lookup x = some .globalImplicit := by
  unfold okC at h
  simp only [Bool.and_eq_true, List.all_eq_true, Bool.or_eq_true] at h
  exact kind_of_beq _ _ (h.2 x hx)

/-! ## the judgements: a piece of syntax from a state -/
section
inductive XE (X : Cx) (e : Expr) (σ : St) (H : Hp) (Q : VK) : Prop
  | mk (t : TE) (h : PE X e t) (q : t σ H Q)
inductive XT (X : Cx) (e : Expr) (σ : St) (H : Hp) (Q : Bool → Hp → Prop) : Prop
  | mk (t : TT) (h : PT X e t) (q : t σ H Q)
inductive XW (X : Cx) (e : Expr) (σ : St) (H : Hp) (Q : Bool → Hp → Prop) : Prop
  | mk (t : TT) (h : PW X e t) (q : t σ H Q)
inductive XA (X : Cx) (es : List Expr) (σ : St) (H : Hp) (Q : List V → Hp → Prop) : Prop
  | mk (t : TA) (h : PA X es t) (q : t σ H Q)
inductive XO (X : Cx) (e : Option Expr) (σ : St) (H : Hp) (Q : Option Int → Hp → Prop) : Prop
  | mk (t : TO) (h : PO X e t) (q : t σ H Q)
inductive XG (X : Cx) (e : Expr) (v : V) (σ : St) (H : Hp) (Q : St → Hp → Prop) : Prop
  | mk (t : TG) (h : PG X e t) (q : t v σ H Q)
inductive XGs (X : Cx) (es : List Expr) (v : List V) (σ : St) (H : Hp) (Q : St → Hp → Prop) : Prop
  | mk (t : TGs) (h : PGs X es t) (q : t v σ H Q)
inductive XI (X : Cx) (tg e : Expr) (σ : St) (H : Hp) (R : It → Hp → Prop) : Prop
  | mk (t : TI) (h : PI X tg e t) (q : t σ H R)
/-- what is wanted behind a return, a break, a continue -/
structure B3 where
  rt : VK
  bk : St → Hp → Prop
  ct : St → Hp → Prop
inductive XS (X : Cx) (s : Stmt) (nx : St → Hp → Prop) (D : B3) (σ : St) (H : Hp) : Prop
  | mk (t : TS) (h : PS X s t) (q : t ⟨nx, D.rt, D.bk, D.ct⟩ σ H)
inductive XB (X : Cx) (s : List Stmt) (nx : St → Hp → Prop) (D : B3) (σ : St) (H : Hp) : Prop
  | mk (t : TS) (h : PSs X s t) (q : t ⟨nx, D.rt, D.bk, D.ct⟩ σ H)
/-! by values -/
inductive VO (X : Cx) (f : Value → Value → Sem Value) (x y : V) (H : Hp) (Q : VK) : Prop
  | mk (r : R2) (h : OpR X f r) (q : r x y H Q)
inductive VU (X : Cx) (f : Value → Sem Value) (x : V) (H : Hp) (Q : VK) : Prop
  | mk (r : V → Hp → VK → Prop) (h : UnR X f r) (q : r x H Q)
inductive VC (X : Cx) (f : Value) (xs : List V) (H : Hp) (Q : VK) : Prop
  | mk (r : List V → Hp → VK → Prop) (h : CallR X f r) (q : r xs H Q)
inductive VX (X : Cx) (x y : V) (H : Hp) (Q : VK) : Prop
  | mk (r : R2) (h : IxR X r) (q : r x y H Q)
inductive VSl (X : Cx) (x : V) (a b : Option Int) (H : Hp) (Q : VK) : Prop
  | mk (r : V → Option Int → Option Int → Hp → VK → Prop) (h : SlR X r) (q : r x a b H Q)
inductive VM (X : Cx) (id : String) (x : V) (xs : List V) (H : Hp) (Q : VK) : Prop
  | mk (r : V → List V → Hp → VK → Prop) (h : MtR X id r) (q : r x xs H Q)
inductive VT (X : Cx) (x : V) (H : Hp) (Q : Bool → Hp → Prop) : Prop
  | mk (k : Bool) (h : TruV X.K x H k) (q : Q k H)
inductive VSt (X : Cx) (o i v : V) (H : Hp) (Q : Hp → Prop) : Prop
  | mk (r : TSet) (h : PSet X r) (q : r o i v H Q)
inductive VIp (X : Cx) (op : Operator) (x y : V) (H : Hp) (Q : VK) : Prop
  | mk (r : TIp) (h : PIp X op r) (q : r x y H Q)
theorem VT.ex {X : Cx} {x : V} {H : Hp} {Q : Bool → Hp → Prop} (h : VT X x H Q) : ∃ k, TruV X.K x H k ∧ Q k H := by
  obtain ⟨k, a, b⟩ := h
  exact ⟨k, a, b⟩
end
section
variable {X : Cx} {σ σ' : St} {H : Hp} {Q : VK} {e a b : Expr} {es : List Expr} {pos p1 p2 p3 : Pos}
theorem XE.pe : PE X e (XE X e) := ⟨fun pins s σ H Q I ⟨_, ht, q⟩ => ht.run pins s σ H Q I q⟩
theorem XT.pt : PT X e (XT X e) := ⟨fun pins s σ H Q I ⟨_, ht, q⟩ => ht.run pins s σ H Q I q⟩
theorem XW.pw : PW X e (XW X e) := ⟨fun wh pins s σ H Q I ⟨_, ht, q⟩ => ht.run wh pins s σ H Q I q⟩
theorem XA.pa : PA X es (XA X es) := ⟨fun pos pins s σ H Q I ⟨_, ht, q⟩ => ht.run pos pins s σ H Q I q⟩
theorem XO.po {e : Option Expr} : PO X e (XO X e) := ⟨fun pins s σ H Q I ⟨_, ht, q⟩ => ht.run pins s σ H Q I q⟩
theorem XG.pg : PG X e (XG X e) := ⟨fun pins s σ H v u Q I r ⟨_, ht, q⟩ => ht.run pins s σ H v u Q I r q⟩
theorem XGs.pgs : PGs X es (XGs X es) := ⟨fun pins s σ H v u Q I r ⟨_, ht, q⟩ => ht.run pins s σ H v u Q I r q⟩
theorem XI.pi {tg : Expr} : PI X tg e (XI X tg e) := ⟨fun pins s σ H R I ⟨_, ht, q⟩ => ht.run pins s σ H R I q⟩
/-- a statement's reading with the wish behind it fixed apart -/
theorem XS.ps {s : Stmt} : PS X s (fun D σ H => XS X s D.nx ⟨D.rt, D.bk, D.ct⟩ σ H) := ⟨fun pins s σ H D I ⟨_, ht, q⟩ => ht.run pins s σ H D I q⟩
theorem XB.ps {s : List Stmt} : PSs X s (fun D σ H => XB X s D.nx ⟨D.rt, D.bk, D.ct⟩ σ H) := ⟨fun pins s σ H D I ⟨_, ht, q⟩ => ht.run pins s σ H D I q⟩
theorem VO.ok {f : Value → Value → Sem Value} : OpR X f (VO X f) := fun pins s σ H x y v u Q I r1 r2 ⟨_, hr, q⟩ => hr pins s σ H x y v u Q I r1 r2 q
theorem VU.ok {f : Value → Sem Value} : UnR X f (VU X f) := fun pins s σ H x v Q I r1 ⟨_, hr, q⟩ => hr pins s σ H x v Q I r1 q
theorem VC.ok {f : Value} : CallR X f (VC X f) := fun pins s σ H x v Q I r1 ⟨_, hr, q⟩ => hr pins s σ H x v Q I r1 q
theorem VX.ok : IxR X (VX X) := fun v1 v2 pins s σ H x y v u Q I r1 r2 ⟨_, hr, q⟩ hs => hr v1 v2 pins s σ H x y v u Q I r1 r2 q hs
theorem VM.ok {id : String} : MtR X id (VM X id) := fun pins s σ H x xs v us Q I r1 r2 ⟨_, hr, q⟩ => hr pins s σ H x xs v us Q I r1 r2 q
theorem VSl.ok : SlR X (VSl X) := by
  intro pins s σ H x v vl vu lo hi sl Q I rx hs pl pu ⟨_, hr, q⟩
  exact hr pins s σ H x v vl vu lo hi sl Q I rx hs pl pu q
theorem VSt.ok : PSet X (VSt X) := fun pins s σ H o i v ov iv u Q I r1 r2 r3 ⟨_, hr, q⟩ => hr pins s σ H o i v ov iv u Q I r1 r2 r3 q
theorem VIp.ok {op : Operator} : PIp X op (VIp X op) := fun pins s σ H x y v u Q I r1 r2 ⟨_, hr, q⟩ => hr pins s σ H x y v u Q I r1 r2 q


/-! ## more is wanted than asked -/
theorem XE.mono {Q' : VK} (h : XE X e σ H Q) (m : ∀ v H', Q v H' → Q' v H') : XE X e σ H Q' := by
  obtain ⟨t, ht, q⟩ := h
  exact ⟨fun σ H R => ∃ R', t σ H R' ∧ ∀ v H', R' v H' → R v H', ⟨fun pins s σ H R I ⟨R', q, m⟩ => thn (ht.run pins s σ H R' I q) fun v s ⟨x, H', I', r, z⟩ => ⟨x, H', I', r, m _ _ z⟩⟩, Q, q, m⟩
theorem XT.mono {Q Q' : Bool → Hp → Prop} (h : XT X e σ H Q) (m : ∀ v H', Q v H' → Q' v H') : XT X e σ H Q' := by
  obtain ⟨t, ht, q⟩ := h
  exact ⟨fun σ H R => ∃ R', t σ H R' ∧ ∀ v H', R' v H' → R v H', ⟨fun pins s σ H R I ⟨R', q, m⟩ => thn (ht.run pins s σ H R' I q) fun v s ⟨H', I', z⟩ => ⟨H', I', m _ _ z⟩⟩, Q, q, m⟩
theorem XW.mono {Q Q' : Bool → Hp → Prop} (h : XW X e σ H Q) (m : ∀ v H', Q v H' → Q' v H') : XW X e σ H Q' := by
  obtain ⟨t, ht, q⟩ := h
  exact ⟨fun σ H R => ∃ R', t σ H R' ∧ ∀ v H', R' v H' → R v H', ⟨fun wh pins s σ H R I ⟨R', q, m⟩ => thn (ht.run wh pins s σ H R' I q) fun v s ⟨H', I', z⟩ => ⟨H', I', m _ _ z⟩⟩, Q, q, m⟩
theorem XA.mono {Q Q' : List V → Hp → Prop} (h : XA X es σ H Q) (m : ∀ v H', Q v H' → Q' v H') : XA X es σ H Q' := by
  obtain ⟨t, ht, q⟩ := h
  exact ⟨fun σ H R => ∃ R', t σ H R' ∧ ∀ v H', R' v H' → R v H', ⟨fun pos pins s σ H R I ⟨R', q, m⟩ => thn (ht.run pos pins s σ H R' I q) fun v s ⟨x, H', I', r, z⟩ => ⟨x, H', I', r, m _ _ z⟩⟩, Q, q, m⟩
theorem VO.mono {f : Value → Value → Sem Value} {x y : V} {Q' : VK} (h : VO X f x y H Q) (m : ∀ v H', Q v H' → Q' v H') : VO X f x y H Q' := by
  obtain ⟨t, ht, q⟩ := h
  exact ⟨fun x y H R => ∃ R', t x y H R' ∧ ∀ v H', R' v H' → R v H', fun pins s σ H x y v u R I rx ry ⟨R', q, m⟩ => thn (ht pins s σ H x y v u R' I rx ry q) fun v s ⟨x, H', I', r, z⟩ => ⟨x, H', I', r, m _ _ z⟩, Q, q, m⟩
theorem VC.mono {f : Value} {xs : List V} {Q' : VK} (h : VC X f xs H Q) (m : ∀ v H', Q v H' → Q' v H') : VC X f xs H Q' := by
  obtain ⟨t, ht, q⟩ := h
  exact ⟨fun xs H R => ∃ R', t xs H R' ∧ ∀ v H', R' v H' → R v H', fun pins s σ H x v R I rx ⟨R', q, m⟩ => thn (ht pins s σ H x v R' I rx q) fun v s ⟨x, H', I', r, z⟩ => ⟨x, H', I', r, m _ _ z⟩, Q, q, m⟩

/-! ## the context of a body -/
structure Ctx (X : Cx) (sc : Scope) (N Vs Ls G : List Str) (k : Nat) : Prop where
  hN : X.N = N
  nd : N.Nodup
  esc : X.env.scope = sc
  ok : okC sc Vs Ls G = true
  calm : X.calm = true
  fn : ∀ x ∈ Ls, X.fn x = true
  po : PassesOwn (model X.prog X.w) X.A X.env X.xe
  knd : sc.kind = .function
  room : Room k X.A
variable {N Vs Ls G : List Str} {k : Nat} {D : B3} {nx : St → Hp → Prop} {K : PySem.W.Frag} {sc : Scope}
theorem Ctx.vis (C : Ctx X sc N Vs Ls G k) {x : Str} (h : Mem Vs x) : Vis X.env.scope x := by rw [C.esc]; exact okC.vis C.ok h.mem
theorem Ctx.loc (C : Ctx X sc N Vs Ls G k) {x : Str} (h : Mem Ls x) : Loc X.env.scope x := by rw [C.esc]; exact okC.loc C.ok h.mem
theorem Ctx.gl (C : Ctx X sc N Vs Ls G k) {x : Str} (h : Mem G x) : Gl X x := by
  show X.env.scope.names.lookup x = _
  rw [C.esc]; exact okC.gl C.ok h.mem
theorem Ctx.hu (C : Ctx X sc N Vs Ls G k) : X.A.units + 1 < cLine := hu_of C.room

/-! ## expressions -/
/-- a name: hd, hcd by decide -/
theorem xe_var {x : Str} {v : V} (C : Ctx X sc N Vs Ls G k) (hv : Mem Vs x) (h : At N σ x v) (q : Q v H)
    (hd : (x == ("__debug__" : Str)) = false := by decide) (hcd : (x == ("__classdict__" : Str)) = false := by decide) : XE X (.Name x pos) σ H Q := by
  obtain ⟨i, h1, h2⟩ := h.ix
  exact ⟨_, pe_var (i := i) (by rw [C.hN]; exact h1) (C.vis hv) hd hcd, v, h2, q⟩
theorem xe_int {i : Int} {j : Nat} (q : Q (.int i) H) : XE X (.Constant (.int i) j pos) σ H Q := ⟨_, pe_int, q⟩
theorem xe_bl {i : Bool} {j : Nat} (q : Q (.bl i) H) : XE X (.Constant (.bool i) j pos) σ H Q := ⟨_, pe_bl, q⟩
theorem xe_non {j : Nat} (q : Q .non H) : XE X (.Constant .none j pos) σ H Q := ⟨_, pe_non, q⟩
theorem xe_str {i : Str} {j : Nat} (q : Q (.str i) H) : XE X (.Constant (.str i) j pos) σ H Q := ⟨_, pe_str, q⟩
theorem xe_glob {x : Str} {v : V} {u : Value} (C : Ctx X sc N Vs Ls G k) (hg : Mem G x) (hm : X.mg x = some u) (r : RelV v u) (q : Q v H) (hd : (x == ("__debug__" : Str)) = false := by decide) : XE X (.Name x pos) σ H Q := ⟨_, pe_glob (C.gl hg) hm r hd, q⟩
theorem xe_bin {op : Operator} (h : XE X a σ H fun x H1 => XE X b σ H1 fun y H2 => VO X (binaryOp op) x y H2 Q) : XE X (.BinOp a op b pos) σ H Q := ⟨_, pe_op VO.ok XE.pe XE.pe, h⟩
theorem xe_un {op : UnaryOp} (h : XE X a σ H fun x H1 => VU X (unaryOp op) x H1 Q) : XE X (.UnaryOp op a pos) σ H Q := ⟨_, pe_un VU.ok XE.pe, h⟩
theorem xe_not (h : XE X a σ H fun v H1 => VT X v H1 fun c H2 => Q (.bl (!c)) H2) : XE X (.UnaryOp .Not a pos) σ H Q := ⟨_, pe_notT XE.pe, h.mono fun _ _ z => z.ex⟩
theorem xe_and {rest : List Expr} (h : XE X a σ H fun v H1 => VT X v H1 fun k H1 => if k = true then XE X (.BoolOp .And (b :: rest) pos) σ H1 Q else Q v H1) : XE X (.BoolOp .And (a :: b :: rest) pos) σ H Q := ⟨_, pe_andT XE.pe XE.pe, h.mono fun _ _ z => z.ex⟩
theorem xe_or {rest : List Expr} (h : XE X a σ H fun v H1 => VT X v H1 fun k H1 => if k = true then Q v H1 else XE X (.BoolOp .Or (b :: rest) pos) σ H1 Q) : XE X (.BoolOp .Or (a :: b :: rest) pos) σ H Q := ⟨_, pe_orT XE.pe XE.pe, h.mono fun _ _ z => z.ex⟩
theorem xe_one {op : BoolOp} (h : XE X a σ H Q) : XE X (.BoolOp op [a] pos) σ H Q := ⟨_, pe_one XE.pe, h⟩
theorem xe_cmp {op : CmpOp} (h : XE X a σ H fun x H1 => XE X b σ H1 fun y H2 => VO X (compareOp op) x y H2 Q) (hm : behindInMarks op b = false := by rfl) : XE X (.Compare a [op] [b] pos) σ H Q := ⟨_, pe_cmpR VO.ok XE.pe XE.pe hm, h⟩
theorem xe_chain {op op' : CmpOp} {c : Expr} (h : XE X a σ H fun x H1 => XE X b σ H1 fun y H2 => VO X (compareOp op) x y H2 fun z H3 => ∃ k, z = .bl k ∧
    if k = true then XE X c σ H3 (fun y' H4 => VO X (compareOp op') y y' H4 Q) else Q (.bl false) H3) (hm : lastMarks [op, op'] [b, c] = false := by with_unfolding_all rfl) : XE X (.Compare a [op, op'] [b, c] pos) σ H Q := ⟨_, pe_chain VO.ok VO.ok XE.pe XE.pe XE.pe hm, h⟩
theorem xe_ifExp {c : Expr} (h : XT X c σ H fun k H1 => if k = true then XE X a σ H1 Q else XE X b σ H1 Q) : XE X (.IfExp c a b pos) σ H Q := ⟨_, pe_ifExp XT.pt XE.pe XE.pe, h⟩
theorem xe_ix (h : XE X a σ H fun x H1 => XE X b σ H1 fun y H2 => VX X x y H2 Q) (hs : PlainIx b := by exact fun _ _ => rfl) : XE X (.Subscript a b pos) σ H Q := ⟨_, pe_ix VX.ok XE.pe XE.pe hs, h⟩
theorem xe_sl {lo hi : Option Expr} (h : XE X a σ H fun x H1 => XO X lo σ H1 fun l H2 => XO X hi σ H2 fun u H3 => VSl X x l u H3 Q) : XE X (.Subscript a (.Slice lo hi none p2) pos) σ H Q := ⟨_, pe_slice VSl.ok XE.pe XO.po XO.po, h⟩
theorem xo_none {R : Option Int → Hp → Prop} (h : R none H) : XO X none σ H R := ⟨_, po_none, h⟩
theorem xo_some {R : Option Int → Hp → Prop} (h : XE X a σ H fun x H1 => ∃ i, x = .int i ∧ R (some i) H1) : XO X (some a) σ H R := ⟨_, po_some XE.pe, h⟩
theorem xa_nil {R : List V → Hp → Prop} (h : R [] H) : XA X [] σ H R := ⟨_, pa_nil, h⟩
theorem xa_cons {R : List V → Hp → Prop} (h : XE X a σ H fun x H1 => XA X es σ H1 fun xs H2 => R (x :: xs) H2) (hs : starEach (a :: es) X.env = (false, eval a X.env) :: starEach es X.env := by rfl) : XA X (a :: es) σ H R := ⟨_, pa_cons XE.pe XA.pa hs, h⟩
theorem xa_star {R : List V → Hp → Prop} (h : XE X a σ H fun x H1 => ∃ p xs, x = .ref p ∧ (SqT X.K H1 p xs ∨ SqL X.K H1 p xs) ∧ XA X es σ H1 fun ys H2 => R (xs ++ ys) H2) (hs : starEach (.Starred a p2 :: es) X.env = (true, eval a X.env) :: starEach es X.env := by rfl) : XA X (.Starred a p2 :: es) σ H R := ⟨_, StX.pa_star XE.pe XA.pa hs, h⟩

/-- a new object -/
theorem new_ {H : Hp} {o : HO} {R : Addr → Hp → Prop} (h : ∀ p H', Kp [] H H' → H p = none → H' p = some o → R p H') (p : Addr) (hp : H p = none) : R p (upd H p o) := h p _ (Kp.new hp) hp upd_same
/-- a new tuple, wanted by what it holds alone -/
theorem newT {K : PySem.W.Frag} {H : Hp} {xs : List V} {R : V → Hp → Prop} (h : ∀ p H', Kp [] H H' → SqT K H' p xs → R (.ref p) H') (p : Addr) (hp : H p = none) : R (.ref p) (upd H p (.tup xs)) := h p _ (Kp.new hp) (.inl (.inl upd_same))
theorem xe_tup {j : Nat} (h : XA X es σ H fun vs H1 => vs.length ≤ sizeLine ∧ ∀ p H', Kp [] H1 H' → SqT X.K H' p vs → H' p = some (.tup vs) → Q (.ref p) H') : XE X (.Tuple es j pos) σ H Q :=
  ⟨_, pe_tup XA.pa, h.mono fun _ _ ⟨a, b⟩ => ⟨a, fun p hp => b p _ (Kp.new hp) (.inl (.inl upd_same)) upd_same⟩⟩
theorem xe_lst (h : XA X es σ H fun vs H1 => vs.length ≤ sizeLine ∧ ∀ p H', Kp [] H1 H' → H1 p = none → H' p = some (.lst vs) → Q (.ref p) H') : XE X (.List es pos) σ H Q :=
  ⟨_, pe_lst XA.pa, h.mono fun _ _ ⟨a, b⟩ => ⟨a, new_ b⟩⟩

/-! ## tests -/
variable {R : Bool → Hp → Prop}
theorem xt_val (h : XE X e σ H fun v H1 => VT X v H1 R) (he : ∀ whole, isTrue e X.env whole = (do let v ← whole; standAt e.pos; holding [v] (truthy v)) := by intro _; rfl) : XT X e σ H R := ⟨_, pt_truth XE.pe he, h.mono fun _ _ z => z.ex⟩
theorem xt_cmp {op : CmpOp} (h : XE X a σ H fun x H1 => XE X b σ H1 fun y H2 => VO X (compareOp op) x y H2 fun z H3 => ∃ k, z = .bl k ∧ R k H3) (hm : behindInMarks op b = false := by rfl) : XT X (.Compare a [op] [b] pos) σ H R := ⟨_, pt_cmpR VO.ok XE.pe XE.pe hm, h⟩
theorem xt_chain {op op' : CmpOp} {c : Expr} (h : XE X a σ H fun x H1 => XE X b σ H1 fun y H2 => VO X (compareOp op) x y H2 fun z H3 => ∃ k, z = .bl k ∧
    if k = true then XE X c σ H3 (fun y' H4 => VO X (compareOp op') y y' H4 fun z' H5 => ∃ k', z' = .bl k' ∧ R k' H5) else R false H3) (hm : lastMarks [op, op'] [b, c] = false := by with_unfolding_all rfl) : XT X (.Compare a [op, op'] [b, c] pos) σ H R := by
  refine ⟨_, pt_chain VO.ok VO.ok XE.pe XE.pe XE.pe hm, XE.mono h fun x H1 h => XE.mono h fun y H2 h => VO.mono h fun z H3 ⟨k, e, h⟩ => ⟨k, e, ?_⟩⟩
  cases k with
  | true => exact h
  | false => exact ⟨false, rfl, h⟩
theorem xt_not (h : XT X a σ H fun c H1 => R (!c) H1) : XT X (.UnaryOp .Not a pos) σ H R := ⟨_, pt_not XT.pt, h⟩
theorem xt_bool {op : BoolOp} {es : List Expr} (h : XW X (.BoolOp op es pos) σ H R) : XT X (.BoolOp op es pos) σ H R := ⟨_, XW.pw.pt, h⟩
theorem xw_and {rest : List Expr} (h : XT X a σ H fun c H1 => if c = true then XW X (.BoolOp .And (b :: rest) pos) σ H1 R else R false H1) : XW X (.BoolOp .And (a :: b :: rest) pos) σ H R := ⟨_, pw_and XT.pt XW.pw, h⟩
theorem xw_and1 (h : XT X a σ H R) : XW X (.BoolOp .And [a] pos) σ H R := ⟨_, pw_and1 XT.pt, h⟩
theorem xw_or {rest : List Expr} (h : XT X a σ H fun c H1 => if c = true then R true H1 else XW X (.BoolOp .Or (b :: rest) pos) σ H1 R) : XW X (.BoolOp .Or (a :: b :: rest) pos) σ H R := ⟨_, pw_or XT.pt XW.pw, h⟩
theorem xw_or1 (h : XT X a σ H R) : XW X (.BoolOp .Or [a] pos) σ H R := ⟨_, pw_or1 XT.pt, h⟩

/-! ## values: operators, tests, calls -/
variable {i j : Int} {p q : Addr} {xs ys : List V} {v : V}
theorem vo_add (h : Q (.int (i + j)) H) : VO X (binaryOp .Add) (.int i) (.int j) H Q := ⟨_, op_add, i, j, rfl, rfl, h⟩
theorem vo_sub (h : Q (.int (i - j)) H) : VO X (binaryOp .Sub) (.int i) (.int j) H Q := ⟨_, op_sub, i, j, rfl, rfl, h⟩
theorem vo_mul (c : CMul i j) (h : Q (.int (i * j)) H) : VO X (binaryOp .Mult) (.int i) (.int j) H Q := ⟨_, op_mul, i, j, rfl, rfl, c, h⟩
theorem vo_mulX (c : CMulX i j) (h : Q (.int (i * j)) H) : VO X (binaryOp .Mult) (.int i) (.int j) H Q := ⟨_, op_mulX, i, j, rfl, rfl, c, h⟩
theorem vo_fdiv (c : CDiv i j) (h : Q (.int (i / j)) H) : VO X (binaryOp .FloorDiv) (.int i) (.int j) H Q := ⟨_, op_fdiv, i, j, rfl, rfl, c, h⟩
theorem vo_mod (c : 0 < j) (h : Q (.int (i % j)) H) : VO X (binaryOp .Mod) (.int i) (.int j) H Q := ⟨_, op_mod, i, j, rfl, rfl, c, h⟩
theorem vo_pow (c : CPow i j) (h : Q (.int (i ^ j.toNat)) H) : VO X (binaryOp .Pow) (.int i) (.int j) H Q := ⟨_, op_pow, i, j, rfl, rfl, c, h⟩
theorem vo_shl (c : CPow i j) (h : Q (.int (i * 2 ^ j.toNat)) H) : VO X (binaryOp .LShift) (.int i) (.int j) H Q := ⟨_, op_shl, i, j, rfl, rfl, c, h⟩
theorem vo_and (h : Q (.int (Builtin.bitAnd i j)) H) : VO X (binaryOp .BitAnd) (.int i) (.int j) H Q := ⟨_, op_and, i, j, rfl, rfl, h⟩
theorem vo_lt (h : Q (.bl (decide (i < j))) H) : VO X (compareOp .Lt) (.int i) (.int j) H Q := ⟨_, op_lt, i, j, rfl, rfl, h⟩
theorem vo_le (h : Q (.bl (decide (i ≤ j))) H) : VO X (compareOp .LtE) (.int i) (.int j) H Q := ⟨_, op_le, i, j, rfl, rfl, h⟩
theorem vo_gt (h : Q (.bl (decide (j < i))) H) : VO X (compareOp .Gt) (.int i) (.int j) H Q := ⟨_, op_gt, i, j, rfl, rfl, h⟩
theorem vo_ge (h : Q (.bl (decide (j ≤ i))) H) : VO X (compareOp .GtE) (.int i) (.int j) H Q := ⟨_, op_ge, i, j, rfl, rfl, h⟩
theorem vo_eq (h : Q (.bl (decide (i = j))) H) : VO X (compareOp .Eq) (.int i) (.int j) H Q := by
  refine ⟨_, op_eq, rfl, ?_⟩
  have e : decide (V.int i = V.int j) = decide (i = j) := by by_cases e : i = j <;> simp [e]
  rw [e]; exact h
theorem vo_ne (h : Q (.bl (!decide (i = j))) H) : VO X (compareOp .NotEq) (.int i) (.int j) H Q := by
  refine ⟨_, op_ne, rfl, ?_⟩
  have e : decide (V.int i = V.int j) = decide (i = j) := by by_cases e : i = j <;> simp [e]
  rw [e]; exact h
theorem vo_eqB {i j : Bool} (h : Q (.bl (i == j)) H) : VO X (compareOp .Eq) (.bl i) (.bl j) H Q := ⟨_, op_eq, rfl, by rw [dec_bl]; exact h⟩
theorem vo_neB {i j : Bool} (h : Q (.bl (!(i == j))) H) : VO X (compareOp .NotEq) (.bl i) (.bl j) H Q := ⟨_, op_ne, rfl, by rw [dec_bl]; exact h⟩
theorem vo_isB {i j : Bool} (h : Q (.bl (decide (i = j))) H) : VO X (compareOp .Is) (.bl i) (.bl j) H Q := ⟨_, op_isBl, i, j, rfl, rfl, h⟩
theorem vo_notB {i j : Bool} (h : Q (.bl (!decide (i = j))) H) : VO X (compareOp .IsNot) (.bl i) (.bl j) H Q := ⟨_, op_notBl, i, j, rfl, rfl, h⟩
theorem vo_isN (h : Q (.bl (decide (v = .non))) H) : VO X (compareOp .Is) v .non H Q := ⟨_, op_isN, rfl, h⟩
theorem vo_notN (h : Q (.bl (!decide (v = .non))) H) : VO X (compareOp .IsNot) v .non H Q := ⟨_, op_notN, rfl, h⟩
theorem vo_catT (hx : SqT X.K H p xs) (hy : SqT X.K H q ys) (hz : xs.length + ys.length ≤ sizeLine) (h : ∀ r H', Kp [] H H' → SqT X.K H' r (xs ++ ys) → Q (.ref r) H') : VO X (binaryOp .Add) (.ref p) (.ref q) H Q := by
  refine ⟨_, op_catA, p, q, xs, ys, rfl, rfl, hx, hy, hz, fun e => ?_, fun _ e => ?_, fun _ _ r hr => h r _ (Kp.new hr) (.inl (.inl upd_same))⟩
  · subst e; exact h q H (Kp.refl _ _) hy
  · subst e; exact h p H (Kp.refl _ _) (by simpa using hx)
theorem vo_catL (hx : H p = some (.lst xs)) (hy : H q = some (.lst ys)) (hz : xs.length + ys.length ≤ sizeLine) (h : ∀ r H', Kp [] H H' → H r = none → H' r = some (.lst (xs ++ ys)) → Q (.ref r) H') : VO X (binaryOp .Add) (.ref p) (.ref q) H Q :=
  ⟨_, op_cat, p, q, xs, ys, rfl, rfl, hx, hy, hz, new_ h⟩
theorem vu_neg (h : Q (.int (-i)) H) : VU X (unaryOp .USub) (.int i) H Q := ⟨_, un_neg, i, rfl, h⟩
theorem vx_tup (hx : SqT X.K H p xs) (hi : atI xs i = some v) (h : Q v H) : VX X (.ref p) (.int i) H Q := ⟨_, ix_tup, p, xs, i, v, rfl, rfl, hx, hi, h⟩
theorem vx_lst (hx : SqL X.K H p xs) (hi : atI xs i = some v) (h : Q v H) : VX X (.ref p) (.int i) H Q := ⟨_, ix_list, p, xs, i, v, rfl, rfl, hx, hi, h⟩
theorem vsl_tup {lo hi : Option Int} (hx : SqT X.K H p xs) (h : ∀ r H', Kp [] H H' → SqT X.K H' r (cutV xs lo hi) → Q (.ref r) H') : VSl X (.ref p) lo hi H Q := by
  refine ⟨_, sl_tupA, p, xs, rfl, hx, fun e => ?_, fun _ r hr => h r _ (Kp.new hr) (.inl (.inl upd_same))⟩
  refine h p H (Kp.refl _ _) ?_
  have e2 : cutV xs lo hi = xs := by unfold cutV; rw [e.1, e.2]; simp
  rw [e2]; exact hx
theorem vsl_lst {lo hi : Option Int} (hx : SqL X.K H p xs) (h : ∀ r H', Kp [] H H' → H r = none → H' r = some (.lst (cutV xs lo hi)) → Q (.ref r) H') : VSl X (.ref p) lo hi H Q := ⟨_, sl_list, p, xs, rfl, hx, new_ h⟩
theorem vt_bl {c : Bool} (h : R c H) : VT X (.bl c) H R := ⟨c, rfl, h⟩
theorem vt_int (h : R (i != 0) H) : VT X (.int i) H R := ⟨_, rfl, h⟩
theorem vt_tup (hx : SqT X.K H p xs) (h : R (!xs.isEmpty) H) : VT X (.ref p) H R := ⟨_, .inr (.inl ⟨xs, hx, rfl⟩), h⟩
theorem vt_lst (hx : SqL X.K H p xs) (h : R (!xs.isEmpty) H) : VT X (.ref p) H R := ⟨_, .inl ⟨xs, hx, rfl⟩, h⟩
theorem vc_lenT (hx : SqT X.K H p xs) (h : Q (.int xs.length) H) : VC X (.builtin "len") [.ref p] H Q := ⟨_, call_len_seq, p, xs, rfl, .inr hx, h⟩
theorem vc_lenL (hx : SqL X.K H p xs) (h : Q (.int xs.length) H) : VC X (.builtin "len") [.ref p] H Q := ⟨_, call_len_seq, p, xs, rfl, .inl hx, h⟩
theorem vc_int (h : Q (.int i) H) : VC X (.type "int") [.int i] H Q := ⟨_, call_int1, .inl ⟨i, rfl, h⟩⟩
theorem vc_intB {c : Bool} (h : Q (.int (if c then 1 else 0)) H) : VC X (.type "int") [.bl c] H Q := ⟨_, call_int1, .inr ⟨c, rfl, h⟩⟩
theorem vc_abs (h : Q (.int (if i < 0 then -i else i)) H) : VC X (.builtin "abs") [.int i] H Q := ⟨_, call_abs, i, rfl, h⟩
theorem vc_listT (hx : SqT X.K H p xs) (h : ∀ r H', Kp [] H H' → H r = none → H' r = some (.lst xs) → Q (.ref r) H') : VC X (.type "list") [.ref p] H Q := ⟨_, call_list_of, p, xs, rfl, .inr hx, new_ h⟩
theorem vc_listL (hx : SqL X.K H p xs) (h : ∀ r H', Kp [] H H' → H r = none → H' r = some (.lst xs) → Q (.ref r) H') : VC X (.type "list") [.ref p] H Q := ⟨_, call_list_of, p, xs, rfl, .inl hx, new_ h⟩
theorem vc_tupL (hx : SqL X.K H p xs) (h : ∀ r H', Kp [] H H' → SqT X.K H' r xs → Q (.ref r) H') : VC X (.type "tuple") [.ref p] H Q := ⟨_, call_tuple_of, p, xs, rfl, .inl ⟨hx, newT h⟩⟩
theorem vc_isi {x : V} {t c : String} {u : Bool} (ht : TyX X.K H x (.type t)) (hk : kitB t c = some u) (h : Q (.bl u) H) : VC X (.builtin "isinstance") [x, .ty c] H Q := ⟨_, call_isi, x, .ty c, .type t, .type c, u, rfl, .ty c, ht, kit_ty hk, h⟩

/-! ## calls -/
/-- a def of the module and its promise -/
structure DefOk (P : Program) (w : World) (K : PySem.W.Frag) (mg : Str → Option Value) (base : Heap) (x : Str) (ps : List Str) (k : Nat) (sp : Sp) : Prop where
  ex : ∃ f fd, FnOk P w K mg base CX0 k f fd ps sp ∧ mg x = some (.ref f) ∧ PySem.W.keepIn K (.ref f) = true ∧ Binds K fd ps []
variable {x : Str} {ps : List Str} {k' : Nat} {sp : Sp}
theorem xe_call (C : Ctx X sc N Vs Ls G k) (F : DefOk X.prog X.w X.K X.mg X.base x ps k' sp) (hg : Mem G x) (hk : k' ≤ k) (h : XA X (a :: es) σ H fun vs H1 => sp vs H1 Q E0)
    (hdb : (x == ("__debug__" : Str)) = false := by decide) (he : starEach (a :: es) X.env = (false, eval a X.env) :: starEach es X.env := by rfl) (hpl : (backTo pos (starEach es X.env)).any (·.1) = false := by rfl) : XE X (.Call (.Name x p1) (a :: es) [] pos) σ H Q := by
  obtain ⟨f, fd, F, hm, kp, b⟩ := F.ex
  exact ⟨_, pe_call F (C.room.mono hk) (C.gl hg) hm kp b .nil pass0 XA.pa hdb he hpl, by
    refine XA.mono h fun vs H1 q => ?_
    rw [List.append_nil]; exact q⟩
theorem xe_callB {id : String} (C : Ctx X sc N Vs Ls G k) (hg : Mem G x) (hm : X.mg x = none) (hv : bootBuiltins x = some (.builtin id)) (h : XA X (a :: es) σ H fun vs H1 => VC X (.builtin id) vs H1 Q)
    (hn : x ≠ "__name__" := by decide) (hdb : (x == ("__debug__" : Str)) = false := by decide) (he : starEach (a :: es) X.env = (false, eval a X.env) :: starEach es X.env := by rfl) (hpl : (backTo pos (starEach es X.env)).any (·.1) = false := by rfl) :
    XE X (.Call (.Name x p1) (a :: es) [] pos) σ H Q := ⟨_, pe_callB VC.ok (C.gl hg) hm hv XA.pa hn hdb he hpl, h⟩
theorem xe_callTy {id : String} (C : Ctx X sc N Vs Ls G k) (hg : Mem G x) (hm : X.mg x = none) (hv : bootBuiltins x = some (.type id)) (h : XA X (a :: es) σ H fun vs H1 => VC X (.type id) vs H1 Q)
    (hn : x ≠ "__name__" := by decide) (hdb : (x == ("__debug__" : Str)) = false := by decide) (he : starEach (a :: es) X.env = (false, eval a X.env) :: starEach es X.env := by rfl) (hpl : (backTo pos (starEach es X.env)).any (·.1) = false := by rfl) :
    XE X (.Call (.Name x p1) (a :: es) [] pos) σ H Q := ⟨_, pe_callTy VC.ok (C.gl hg) hm hv XA.pa hn hdb he hpl, h⟩
/-- a built-in type's name as a value -/
theorem xe_ty {id : String} (C : Ctx X sc N Vs Ls G k) (hg : Mem G x) (hm : X.mg x = none) (hv : bootBuiltins x = some (.type id)) (h : Q (.ty id) H) (hn : x ≠ "__name__" := by decide) (hdb : (x == ("__debug__" : Str)) = false := by decide) : XE X (.Name x pos) σ H Q :=
  ⟨_, pe_bltn (v := .ty id) (C.gl hg) hm hv rfl hn hdb, h⟩
/-- n.bit_length() -/
theorem xe_bits {apos : Pos} (h : XE X a σ H fun y H1 => ∃ i, y = .int i ∧ Q (.int (Builtin.Int.intBits i : Nat)) H1) (hbase : attributeBase a "bit_length" X.env (eval a X.env) = eval a X.env := by rfl) (hline : (apos.endLine == pos.line) = true := by rfl) :
    XE X (.Call (.Attribute a "bit_length" apos) [] [] pos) σ H Q := ⟨_, pe_bits XE.pe hbase hline, h⟩
/-- o.f -/
theorem xe_fld {f : Str} (h : XE X a σ H fun y H1 => ∃ p C dx fs v, y = .ref p ∧ H1 p = some (.ins C dx fs) ∧ Cls X.K C ∧ NoAttr X.K C f ∧ fs.lookup f = some v ∧ Q v H1) (hb : attributeBase a f X.env (eval a X.env) = eval a X.env := by rfl) : XE X (.Attribute a f pos) σ H Q :=
  ⟨_, pe_fld XE.pe hb, h⟩
/-- xs.append(y) -/
theorem xe_append {apos : Pos} (h : XE X a σ H fun y H1 => ∃ l xs, y = .ref l ∧ H1 l = some (.lst xs) ∧ XE X b σ H1 fun z H2 => H2 l = some (.lst xs) ∧ xs.length < sizeLine ∧ ∀ H', Kp [l] H2 H' → H' l = some (.lst (xs ++ [z])) → Q .non H')
    (hbase : attributeBase a "append" X.env (eval a X.env) = eval a X.env := by rfl) (hs : starEach (b :: []) X.env = (false, eval b X.env) :: starEach [] X.env := by rfl) (hline : (apos.endLine == pos.line) = true := by rfl)
    (hfew : ((backTo pos (starEach [b] X.env)).all (fun x => !x.1) && (backToKw pos (keywordEach [] X.env)).all (fun x => x.1.isSome) && decide (([b] : List Expr).length + ([] : List Keyword).length + (if ([] : List Keyword).isEmpty then 0 else 1) < 30)) = true := by rfl)
    : XE X (.Call (.Attribute a "append" apos) [b] [] pos) σ H Q := by
  refine ⟨_, pe_bm PySem.F.plainAttrs_list PySem.F.slot_list_append PySem.F.type_list_append mt_append XE.pe XA.pa hbase hfew hline hs, ?_⟩
  refine XE.mono h fun y H1 ⟨l, xs, e, hl, q⟩ => ?_
  subst e
  refine ⟨.inl ⟨rfl, xs, .inl (.inl hl)⟩, xa_cons (hs := hs) (XE.mono q fun z H2 ⟨hl2, hz, q⟩ => xa_nil ?_)⟩
  exact ⟨l, xs, z, rfl, rfl, hl2, hz, q _ (Kp.set hl2 rfl) upd_same⟩

/-! ## statements -/
variable {s : Stmt} {sts sts' : List Stmt}
theorem xb_nil (h : nx σ H) : XB X [] nx D σ H := ⟨_, pss_nil, h⟩
theorem xb_cons (h : XS X s (fun σ' H' => XB X sts nx D σ' H') D σ H) : XB X (s :: sts) nx D σ H := ⟨_, pss_cons XS.ps XB.ps, h⟩
theorem xs_pass (h : nx σ H) : XS X (.Pass pos) nx D σ H := ⟨_, ps_pass, h⟩
theorem xs_break (h : D.bk σ H) : XS X (.Break pos) nx D σ H := ⟨_, ps_break, h⟩
theorem xs_cont (h : D.ct σ H) : XS X (.Continue pos) nx D σ H := ⟨_, ps_continue, h⟩
theorem xs_expr (h : XE X e σ H fun _ H1 => nx σ H1) (hs : swapsWith e none pos.line X.env = pure false := by rfl) : XS X (.Expr e pos) nx D σ H := ⟨_, ps_expr XE.pe hs, h⟩
theorem xs_ret (h : XE X e σ H D.rt) : XS X (.Return (some e) pos) nx D σ H := ⟨_, ps_ret XE.pe, h⟩
theorem xs_retN (h : D.rt .non H) : XS X (.Return none pos) nx D σ H := ⟨_, ps_retN, h⟩
theorem xs_if {c : Expr} (h : XT X c σ H fun k H1 => if k = true then XB X sts nx D σ H1 else XB X sts' nx D σ H1) : XS X (.If c sts sts' pos) nx D σ H := ⟨_, ps_if XT.pt XB.ps XB.ps, h⟩
theorem xs_set (C : Ctx X sc N Vs Ls G k) (h : XE X e σ H fun v H1 => ∃ σ', Put N σ x v σ' ∧ nx σ' H1) (hs : swapsWith e (some (.Name x p1)) pos.line X.env = pure false := by rfl) (hx : Mem N x) (hl : Mem Ls x) : XS X (.Assign [.Name x p1] e pos) nx D σ H := by
  have hx' := hx.mem
  obtain ⟨i, hi⟩ := List.getElem?_of_mem hx'
  refine ⟨_, ps_set (i := i) (by rw [C.hN]; exact C.nd) (by rw [C.hN]; exact hi) (C.loc hl) XE.pe hs (.inl (C.fn x hl.mem)), ?_⟩
  refine XE.mono h fun v H1 ⟨σ', hp, q⟩ => ?_
  obtain ⟨j, hj, e⟩ := hp.ix
  have ij : i = j := nd_ix C.nd hi hj
  subst ij
  show nx (σ.set i (some v)) H1
  rw [e]; exact q
theorem xg_name (C : Ctx X sc N Vs Ls G k) {v : V} {Q : St → Hp → Prop} (hx : Mem N x) (hl : Mem Ls x) (h : ∃ σ', Put N σ x v σ' ∧ Q σ' H) : XG X (.Name x p1) v σ H Q := by
  have hx' := hx.mem
  obtain ⟨i, hi⟩ := List.getElem?_of_mem hx'
  refine ⟨_, pg_name (i := i) (by rw [C.hN]; exact C.nd) (by rw [C.hN]; exact hi) (C.loc hl) (.inl (C.fn x hl.mem)), ?_⟩
  obtain ⟨σ', hp, q⟩ := h
  obtain ⟨j, hj, e⟩ := hp.ix
  have ij : i = j := nd_ix C.nd hi hj
  subst ij
  show Q (σ.set i (some v)) H
  rw [e]; exact q
theorem XG.mono {v : V} {Q Q' : St → Hp → Prop} (h : XG X e v σ H Q) (m : ∀ σ H, Q σ H → Q' σ H) : XG X e v σ H Q' := by
  obtain ⟨t, ht, q⟩ := h
  refine ⟨fun v σ H R => ∃ R', t v σ H R' ∧ ∀ σ H', R' σ H' → R σ H', ⟨fun pins s σ H v u R I r ⟨R', q, m⟩ => ?_⟩, Q, q, m⟩
  exact thn (ht.run pins s σ H v u R' I r q) fun _ s ⟨σ', H', I', z⟩ => ⟨σ', H', I', m _ _ z⟩
/-- a, b, .. = a tuple -/
theorem xg_tup {j : Nat} {v : V} {Q : St → Hp → Prop} (C : Ctx X sc N Vs Ls G k) (h : ∃ p xs, v = .ref p ∧ SqT X.K H p xs ∧ xs.length = (assignEach es X.env).length ∧ XGs X es xs σ H Q) (hst : (assignEach es X.env).findIdx? (·.1) = none := by rfl) : XG X (.Tuple es j pos) v σ H Q :=
  ⟨_, pg_tup C.calm XGs.pgs rfl hst, h⟩
/-- o[i] = v -/
theorem xs_setIx {o i : Expr} (h : XE X e σ H fun v H1 => XE X o σ H1 fun ov H2 => XE X i σ H2 fun iv H3 => ∃ l xs k j, ov = .ref l ∧ iv = .int k ∧ H3 l = some (.lst xs) ∧ ixN xs.length k = some j ∧ ∀ H', Kp [l] H3 H' → H' l = some (.lst (xs.set j v)) → nx σ H')
    (ha : ∀ v, assign (.Subscript o i p1) X.env v = (do
      let z1 ← holding [v] (eval o X.env)
      let z2 ← holding [v, z1] (eval i X.env)
      standAt p1; holding [v, z1, z2] (setItem z1 z2 v)
      release [v, z1, z2] []) := by intro _; rfl)
    (hs : swapsWithSole [.Subscript o i p1] e pos.line X.env = pure false := by rfl) (hw : swappedStores [.Subscript o i p1] e X.env = pure none := by rfl)
    (h1 : (assignEach [.Subscript o i p1] X.env).map (·.2) = [assign (.Subscript o i p1) X.env] := by rfl) : XS X (.Assign [.Subscript o i p1] e pos) nx D σ H := by
  refine ⟨_, ps_asg XE.pe (pg_sub XE.pe XE.pe set_list ha) hs hw h1, ?_⟩
  refine XE.mono h fun v H1 h => XE.mono h fun ov H2 h => XE.mono h fun iv H3 ⟨l, xs, k, j, e1, e2, hl, hj, q⟩ => ?_
  exact ⟨l, xs, k, j, e1, e2, hl, hj, q _ (Kp.set hl rfl) upd_same⟩
theorem XB.imp {nx' : St → Hp → Prop} (h : XB X sts nx D σ H) (m : ∀ σ H, nx σ H → nx' σ H) : XB X sts nx' D σ H := by
  obtain ⟨t, ht, q⟩ := h
  refine ⟨fun D σ H => ∃ nx0, t ⟨nx0, D.rt, D.bk, D.ct⟩ σ H ∧ ∀ σ H, nx0 σ H → D.nx σ H, ⟨fun pins s σ H D I ⟨nx0, q, m⟩ => thn (ht.run pins s σ H _ I q) fun f s1 z => ?_⟩, nx, q, m⟩
  cases f with
  | next => obtain ⟨σ', H', I', z⟩ := z; exact ⟨σ', H', I', m _ _ z⟩
  | brk => exact z
  | cont => exact z
  | ret u => exact z

/-! ## loops -/
variable {tg iter : Expr} {body : List Stmt}
/-- for x in a tuple; a list that stands still; a range -/
theorem xs_forT (C : Ctx X sc N Vs Ls G k) (h : XE X iter σ H fun v H1 => ∃ a xs, v = .ref a ∧ SqT X.K H1 a xs ∧ ∃ Pv : Nat → St → Hp → Prop, Pv 0 σ H1 ∧ (∀ i σ' H', i ≤ xs.length → Pv i σ' H' → SqT X.K H' a xs) ∧
    (∀ i y σ' H', xs[i]? = some y → Pv i σ' H' → XG X tg y σ' H' fun σ2 H2 => XB X body (Pv (i + 1)) ⟨D.rt, nx, Pv (i + 1)⟩ σ2 H2) ∧ ∀ σ' H', Pv xs.length σ' H' → nx σ' H')
    (hs : ∀ x, foldedSetIterable iter X.env x = pure x := by intro _; rfl) : XS X (.For tg iter body [] pos) nx D σ H := by
  refine ⟨_, ps_for C.po C.calm (pi_tup XE.pe) XG.pg XB.ps hs, ?_⟩
  refine XE.mono h fun v H1 ⟨a, xs, e, hx, Pv, h0, hl, hs, hd⟩ => ⟨a, e, ⟨xs, hx⟩, ?_⟩
  exact for_tup (K := X.K) (a := a) (xs := xs) (D := ⟨nx, D.rt, D.bk, D.ct⟩) (g := XG X tg) (tb := fun D σ H => XB X body D.nx ⟨D.rt, D.bk, D.ct⟩ σ H) Pv h0 hl hs hd
theorem xs_forL (C : Ctx X sc N Vs Ls G k) (h : XE X iter σ H fun v H1 => ∃ a xs, v = .ref a ∧ SqL X.K H1 a xs ∧ ∃ Pv : Nat → St → Hp → Prop, Pv 0 σ H1 ∧ (∀ i σ' H', i ≤ xs.length → Pv i σ' H' → SqL X.K H' a xs) ∧
    (∀ i y σ' H', xs[i]? = some y → Pv i σ' H' → XG X tg y σ' H' fun σ2 H2 => XB X body (Pv (i + 1)) ⟨D.rt, nx, Pv (i + 1)⟩ σ2 H2) ∧ ∀ σ' H', Pv xs.length σ' H' → nx σ' H')
    (hs : ∀ x, foldedSetIterable iter X.env x = pure x := by intro _; rfl) : XS X (.For tg iter body [] pos) nx D σ H := by
  refine ⟨_, ps_for C.po C.calm (pi_list XE.pe) XG.pg XB.ps hs, ?_⟩
  refine XE.mono h fun v H1 ⟨a, xs, e, hx, Pv, h0, hl, hs, hd⟩ => ⟨a, e, ⟨xs, hx⟩, ?_⟩
  exact for_list (K := X.K) (a := a) (xs := xs) (D := ⟨nx, D.rt, D.bk, D.ct⟩) (g := XG X tg) (tb := fun D σ H => XB X body D.nx ⟨D.rt, D.bk, D.ct⟩ σ H) Pv h0 hl hs hd
theorem xs_forR1 (C : Ctx X sc N Vs Ls G k) (hg : Mem G "range") (hm : X.mg "range" = none) (h : XA X [a] σ H fun vs H1 => ∃ j : Int, vs = [.int j] ∧ -(2 ^ 62) ≤ j ∧ j < 2 ^ 62 ∧ ∃ Pv : Nat → St → Hp → Prop, Pv 0 σ H1 ∧
    (∀ i σ' H', i < j.toNat → Pv i σ' H' → XG X tg (.int i) σ' H' fun σ2 H2 => XB X body (Pv (i + 1)) ⟨D.rt, nx, Pv (i + 1)⟩ σ2 H2) ∧ ∀ σ' H', Pv j.toNat σ' H' → nx σ' H')
    (hst : starEach [a] X.env = [(false, eval a X.env)] := by rfl) (hs : ∀ x, foldedSetIterable (.Call (.Name "range" p1) [a] [] p2) X.env x = pure x := by intro _; rfl) : XS X (.For tg (.Call (.Name "range" p1) [a] [] p2) body [] pos) nx D σ H := by
  refine ⟨_, ps_for C.po C.calm (pi_range1 (C.gl hg) hm XA.pa hst) XG.pg XB.ps hs, ?_⟩
  refine XA.mono h fun v H1 ⟨j, e, h1, h2, Pv, h0, hs, hd⟩ => ⟨j, e, h1, h2, ?_⟩
  refine for_range (lo := 0) (n := j.toNat) (D := ⟨nx, D.rt, D.bk, D.ct⟩) (g := XG X tg) (tb := fun D σ H => XB X body D.nx ⟨D.rt, D.bk, D.ct⟩ σ H) Pv h0 (fun i σ H hi p => ?_) hd
  rw [Int.zero_add]; exact hs i σ H hi p
theorem xs_forR2 (C : Ctx X sc N Vs Ls G k) (hg : Mem G "range") (hm : X.mg "range" = none) (h : XA X [a, b] σ H fun vs H1 => ∃ l j : Int, vs = [.int l, .int j] ∧ (-(2 ^ 62) ≤ l ∧ l < 2 ^ 62 ∧ -(2 ^ 62) ≤ j ∧ j < 2 ^ 62) ∧ ∃ Pv : Nat → St → Hp → Prop, Pv 0 σ H1 ∧
    (∀ i σ' H', i < (j - l).toNat → Pv i σ' H' → XG X tg (.int (l + i)) σ' H' fun σ2 H2 => XB X body (Pv (i + 1)) ⟨D.rt, nx, Pv (i + 1)⟩ σ2 H2) ∧ ∀ σ' H', Pv (j - l).toNat σ' H' → nx σ' H')
    (hst : starEach [a, b] X.env = [(false, eval a X.env), (false, eval b X.env)] := by rfl) (hs2 : starEach [b] X.env = [(false, eval b X.env)] := by rfl)
    (hs : ∀ x, foldedSetIterable (.Call (.Name "range" p1) [a, b] [] p2) X.env x = pure x := by intro _; rfl) : XS X (.For tg (.Call (.Name "range" p1) [a, b] [] p2) body [] pos) nx D σ H := by
  refine ⟨_, ps_for C.po C.calm (pi_range2 (C.gl hg) hm XA.pa hst hs2) XG.pg XB.ps hs, ?_⟩
  refine XA.mono h fun v H1 ⟨l, j, e, h1, Pv, h0, hs, hd⟩ => ⟨l, j, e, h1, ?_⟩
  exact for_range (lo := l) (n := (j - l).toNat) (D := ⟨nx, D.rt, D.bk, D.ct⟩) (g := XG X tg) (tb := fun D σ H => XB X body D.nx ⟨D.rt, D.bk, D.ct⟩ σ H) Pv h0 hs hd

/-- x op= e, x a plain name -/
theorem VIp.mono {op : Operator} {x y : V} {Q' : VK} (h : VIp X op x y H Q) (m : ∀ v H', Q v H' → Q' v H') : VIp X op x y H Q' := by
  obtain ⟨t, ht, q⟩ := h
  exact ⟨fun x y H R => ∃ R', t x y H R' ∧ ∀ v H', R' v H' → R v H', fun pins s σ H x y v u R I rx ry ⟨R', q, m⟩ => thn (ht pins s σ H x y v u R' I rx ry q) fun v s ⟨x, H', I', r, z⟩ => ⟨x, H', I', r, m _ _ z⟩, Q, q, m⟩
theorem xs_aug {x : Str} {v : V} {op : Operator} (C : Ctx X sc N Vs Ls G k) (ha : At N σ x v) (hl : Mem Ls x) (h : XE X e σ H fun y H1 => VIp X op v y H1 fun z H2 => ∃ σ', Put N σ x z σ' ∧ nx σ' H2) : XS X (.AugAssign (.Name x p1) op e pos) nx D σ H := by
  obtain ⟨i, hi, hv⟩ := ha.ix
  refine ⟨_, ps_aug (i := i) (by rw [C.hN]; exact C.nd) (by rw [C.hN]; exact hi) (C.loc hl) XE.pe VIp.ok (.inl (C.fn x hl.mem)), v, hv, ?_⟩
  refine XE.mono h fun y H1 h => VIp.mono h fun z H2 ⟨σ', hp, q⟩ => ?_
  obtain ⟨j, hj, e⟩ := hp.ix
  have ij : i = j := nd_ix C.nd hi hj
  subst ij
  show nx (σ.set i (some z)) H2
  rw [e]; exact q
theorem vip_add {i j : Int} (h : Q (.int (i + j)) H) : VIp X .Add (.int i) (.int j) H Q := ⟨_, ip_add, i, j, rfl, rfl, h⟩
theorem vip_sub {i j : Int} (h : Q (.int (i - j)) H) : VIp X .Sub (.int i) (.int j) H Q := ⟨_, ip_sub, i, j, rfl, rfl, h⟩
/-- for a, b in zip of two lists of one length -/
theorem xs_forZ {elts : List Expr} {kk : Nat} {tpos : Pos} (C : Ctx X sc N Vs Ls G k) (hg : Mem G "zip") (hm : X.mg "zip" = none) (h : XA X [a, b] σ H fun vs H1 => ∃ p q xs ys, vs = [.ref p, .ref q] ∧ SqL X.K H1 p xs ∧ SqL X.K H1 q ys ∧ xs.length = ys.length ∧ ∃ Pv : Nat → St → Hp → Prop, Pv 0 σ H1 ∧
    (∀ i σ' H', Pv i σ' H' → SqL X.K H' p xs ∧ SqL X.K H' q ys) ∧ (∀ i x y T σ' H' H2, xs[i]? = some x → ys[i]? = some y → Pv i σ' H' → Kp [] H' H2 → SqT X.K H2 T [x, y] → XG X (.Tuple elts kk tpos) (.ref T) σ' H2 fun σ3 H3 => XB X body (Pv (i + 1)) ⟨D.rt, nx, Pv (i + 1)⟩ σ3 H3) ∧ ∀ σ' H', Pv xs.length σ' H' → nx σ' H')
    (hs : starEach [a, b] X.env = (false, eval a X.env) :: starEach [b] X.env := by rfl) (hpl : (backTo p2 (starEach [b] X.env)).any (·.1) = false := by rfl) (hfs : ∀ x, foldedSetIterable (.Call (.Name "zip" p1) [a, b] [] p2) X.env x = pure x := by intro _; rfl) : XS X (.For (.Tuple elts kk tpos) (.Call (.Name "zip" p1) [a, b] [] p2) body [] pos) nx D σ H := by
  refine ⟨_, ps_for C.po C.calm (pi_zip (C.gl hg) hm XA.pa hs hpl) XG.pg XB.ps hfs, ?_⟩
  refine XA.mono h fun vs H1 ⟨p, q, xs, ys, e, hx, hy, hl, Pv, h0, hq, hs, hd⟩ => ⟨p, q, xs, ys, e, hx, hy, ?_⟩
  exact RZ.for_zipL (K := X.K) (a := p) (b := q) (xs := xs) (ys := ys) (D := ⟨nx, D.rt, D.bk, D.ct⟩) (g := XG X (.Tuple elts kk tpos)) (tb := fun D σ H => XB X body D.nx ⟨D.rt, D.bk, D.ct⟩ σ H) hl Pv h0 hq
    (fun i x y T σ H hx hy hp hT => hs i x y T σ H _ hx hy hp (Kp.new hT) (.inl (.inl upd_same))) hd
/-! ## zip of a list and a tuple -/
/-- a list at a and a tuple at b as each turn finds them -/
def ItzM (K : PySem.W.Frag) (a b : Addr) : It where
  go := fun i H => ∃ xs ys x y, (SqL K H a xs ∧ xs[i]? = some x) ∧ SqT K H b ys ∧ ys[i]? = some y
  yld := fun i H v H' => ∃ T x y, (v = .ref T ∧ H' = upd H T (.tup [x, y]) ∧ H T = none) ∧ (∀ l, SqL K H a l → l[i]? = some x) ∧ ∀ t, SqT K H b t → t[i]? = some y
  stop := fun i H => ∃ xs ys, SqL K H a xs ∧ SqT K H b ys ∧ min xs.length ys.length = i
def tnM (z TI TO i1 i2 a b : Addr) (i : Nat) (h : Heap) : Prop :=
  IsZip h z TI TO .none ∧ IsTupOf2 h TI (.ref i1) (.ref i2) ∧ (∃ a1 a2, IsTupOf2 h TO a1 a2) ∧ h.IsListIter i1 a i ∧ h.IsTupleIter i2 b i
theorem turn_zipM {P : Program} {w : World} {K : PySem.W.Frag} {elts : List Expr} {kk : Nat} {tpos : Pos} {a b z TI TO i1 i2 : Addr} (S : ZipSep2 z TI TO i1 i2 [i1, a] [i2, b]) (n1 : a ≠ i1) (n2 : b ≠ i2) :
    Turn P w K (.Tuple elts kk tpos) (ItzM K a b) [z, TI, TO, i1, i2] z (tnM z TI TO i1 i2 a b) where
  mem := .head _
  obj := by
    rintro i h ⟨q1, q2, ⟨u1, u2, q3⟩, ⟨o1, e1, k1, d1⟩, o2, e2, k2, d2⟩ c hc
    simp only [List.mem_cons, List.not_mem_nil, or_false] at hc
    rcases hc with rfl | rfl | rfl | rfl | rfl
    · exact ⟨_, q1, nofun⟩
    · exact ⟨_, q2, nofun⟩
    · exact ⟨_, q3, nofun⟩
    · exact ⟨_, e1, fun v q => nomatch d1.symm.trans q⟩
    · exact ⟨_, e2, fun v q => nomatch d2.symm.trans q⟩
  keep := by
    rintro i h h' ⟨q1, q2, ⟨u1, u2, q3⟩, q4, q5⟩ k
    exact ⟨k _ (by simp) _ q1, k _ (by simp) _ q2, ⟨u1, u2, k _ (by simp) _ q3⟩, q4.at (k _ (by simp)), q5.at (k _ (by simp))⟩
  item := by
    rintro X rfl rfl rfl hc i pins s σ H E I hf st ⟨xs, ys, x, y, ⟨lx, ex⟩, ty, ey⟩
    have ⟨its, rv, p, _⟩ := I.list lx
    have ⟨its2, rv2, p2, _⟩ := I.tuple ty
    have ⟨u, hu, ru⟩ := rv.get ex
    have ⟨u2, hu2, ru2⟩ := rv2.get ey
    have hh := I.ok.hd hc
    have D1 := Draws.list (prog := X.prog) (w := X.w) (A := X.A.in1) hh i1 a n1 its.toArray
    have D2 := Draws.tuple (prog := X.prog) (w := X.w) (A := X.A.in1) hh i2 b n2 its2.toArray
    have W := GoesN.zip2 (elts := elts) (x1 := kk) (pos := tpos) S D1 D2
    have b1 : i < its.length := (List.getElem?_eq_some_iff.1 hu).1
    have b2 : i < its2.length := (List.getElem?_eq_some_iff.1 hu2).1
    refine W.goes i s (fun v s2 => ∃ x H', Inv X pins σ H' s2 ∧ RelV x v ∧ (ItzM X.K a b).yld i H x H' ∧ tnM z TI TO i1 i2 a b (i + 1) s2.heap ∧ ∀ b ∈ [z, TI, TO, i1, i2], H' b = none) E (by simp; omega) ⟨st.1, st.2.1, st.2.2.1, ⟨st.2.2.2.1, p.isList⟩, st.2.2.2.2, p2⟩ ?_
    rintro v h' tk ⟨T, v1, v2, rfl, hn, hv1, hv2, hT⟩ ⟨r1, r2, r3, ⟨r4, _⟩, r5, _⟩ hk _
    have c1 : v1 = u := by simpa [hu] using hv1.symm
    have c2 : v2 = u2 := by simpa [hu2] using hv2.symm
    subst c1 c2
    have new : ObjOk X.prog X.w (upd H T (.tup [x, y])) h' T (.tup [x, y]) := ⟨by show 2 ≤ sizeLine; decide, [v1, v2], .cons ru (.cons ru2 .nil), hT⟩
    refine ⟨.ref T, _, I.turnedNew (t' := tk) (ch := [z, TO, i1, i2]) (fun c o hb q => hk c o hb q) (fun c hm => hf c ?_) hn new, rfl, ⟨T, x, y, ⟨rfl, rfl, I.hok.fresh hn⟩, fun l hl => ?_, fun t ht => ?_⟩, ⟨r1, r2, r3, r4, r5⟩, fun c hm => ?_⟩
    · simp only [List.mem_cons, List.not_mem_nil, or_false] at hm ⊢
      rcases hm with e | e | e | e <;> simp [e]
    · exact I.list_inj hl lx ▸ ex
    · exact I.tuple_inj ht ty ▸ ey
    · have hl : c < s.heap.objs.size := by
        obtain ⟨q1, q2, ⟨_, _, q3⟩, ⟨_, q4, _⟩, _, q5, _⟩ := st
        simp only [List.mem_cons, List.not_mem_nil, or_false] at hm
        rcases hm with rfl | rfl | rfl | rfl | rfl
        · exact Heap.lt_size q1
        · exact Heap.lt_size q2
        · exact Heap.lt_size q3
        · exact Heap.lt_size q4
        · exact Heap.lt_size q5
      exact (upd_ne (Nat.ne_of_lt (Nat.lt_of_lt_of_le hl hn))).trans (hf c hm).1
  done := by
    rintro X rfl rfl rfl hc i pins s σ H E I hf st ⟨xs, ys, lx, ty, e⟩
    have ⟨its, rv, p, _⟩ := I.list lx
    have ⟨its2, rv2, p2, _⟩ := I.tuple ty
    have hh := I.ok.hd hc
    have D1 := Draws.list (prog := X.prog) (w := X.w) (A := X.A.in1) hh i1 a n1 its.toArray
    have D2 := Draws.tuple (prog := X.prog) (w := X.w) (A := X.A.in1) hh i2 b n2 its2.toArray
    have W := GoesN.zip2 (elts := elts) (x1 := kk) (pos := tpos) S D1 D2
    have hi : min its.toArray.size its2.toArray.size = i := by
      have l1 := rv.length
      have l2 := rv2.length
      simp; omega
    refine W.stops s (fun s1 => Inv X pins σ H s1) E (by rw [hi]; exact ⟨st.1, st.2.1, st.2.2.1, ⟨st.2.2.2.1, p.isList⟩, st.2.2.2.2, p2⟩) ?_
    intro h' tk hk _
    refine I.turnedL (t' := tk) (ch := [z, TO, i1, i2]) (fun c o hb q => hk c o hb q) fun c hm => hf c ?_
    simp only [List.mem_cons, List.not_mem_nil, or_false] at hm ⊢
    rcases hm with e | e | e | e <;> simp [e]
  self := fun A i s Q E st h => wpAny_pyIter_zip st.1 h
def iZipM (K : PySem.W.Frag) (ta : TA) : TI := fun σ H R => ta σ H fun vs H1 => ∃ a b xs ys, vs = [.ref a, .ref b] ∧ (SqL K H1 a xs ∧ SqT K H1 b ys) ∧ R (ItzM K a b) H1
theorem pi_zipM {X : Cx} {e e2 : Expr} {ta : TA} {p pos tpos : Pos} {elts : List Expr} {kk : Nat} (hg : Gl X "zip") (hm : X.mg "zip" = none) (ha : PA X [e, e2] ta)
    (hs : starEach [e, e2] X.env = (false, eval e X.env) :: starEach [e2] X.env) (hpl : (backTo pos (starEach [e2] X.env)).any (·.1) = false) :
    PI X (.Tuple elts kk tpos) (.Call (.Name "zip" p) [e, e2] [] pos) (iZipM X.K ta) where
  run := by
    intro pins s σ H R I h
    refine PyProof.Rows.Call_ (ld_blt I hg hm PyProof.Rows.boot_zip (PyProof.Rows.callWith_type1 (thn (ha.run pos pins s σ H _ I h) ?_) hs hpl))
    rintro us s1 ⟨vs, H1, I1, r1, a, b, xs, ys, rfl, ⟨lx, ty⟩, q⟩
    match us, r1 with
    | [_, _], .cons r (.cons r' .nil) =>
      cases r
      cases r'
      have ⟨its, _, p1, _⟩ := I1.list lx
      have ⟨its2, _, p2, _⟩ := I1.tuple ty
      have la : a < s1.heap.objs.size := p1.lt
      have lb : b < s1.heap.objs.size := have ⟨_, e, _⟩ := p2; Heap.lt_size e
      refine zip_begins2 (begins_list a its.toArray) (begins_tuple b its2.toArray) p1.isList p2 fun h' q1 q2 q3 q4 q5 _ hk => wpAny_pyIter_zip q1 ?_
      refine ⟨_, [s1.heap.objs.size + 4, s1.heap.objs.size + 2, s1.heap.objs.size + 3, s1.heap.objs.size, s1.heap.objs.size + 1], _, _, H1, rfl, I1.kept (t' := s1.toks) hk, turn_zipM (a := a) (b := b) (zip_sep2 (by simpa using la) (by simpa using lb)) (Nat.ne_of_lt la) (Nat.ne_of_lt (Nat.lt_succ_of_lt lb)), ⟨q1, q2, ⟨_, _, q3⟩, ⟨_, q4, rfl, rfl⟩, ⟨_, q5, rfl, rfl⟩⟩, fun c hm => ?_, q⟩
      have hl : s1.heap.objs.size ≤ c := by
        simp only [List.mem_cons, List.not_mem_nil, or_false] at hm
        rcases hm with rfl | rfl | rfl | rfl | rfl <;> first | exact Nat.le_refl _ | exact Nat.le_add_right _ _
      exact I1.fpOk hl (I1.hok.fresh hl)
theorem for_zipM {K : PySem.W.Frag} {a b : Addr} {xs ys : List V} {g : TG} {tb : TS} {D : Ends} {σ : L2.St} {H : Hp} (hl : xs.length = ys.length) (Pv : Nat → L2.St → Hp → Prop) (h0 : Pv 0 σ H) (hq : ∀ i σ H, Pv i σ H → SqL K H a xs ∧ SqT K H b ys)
    (hs : ∀ (i : Nat) (x y : V) (T : Addr) (σ : L2.St) (H : Hp), xs[i]? = some x → ys[i]? = some y → Pv i σ H → H T = none → g (.ref T) σ (upd H T (.tup [x, y])) fun σ2 H2 => tb ⟨Pv (i + 1), D.rt, D.nx, Pv (i + 1)⟩ σ2 H2) (hd : ∀ σ H, Pv xs.length σ H → D.nx σ H) :
    ∃ W : Nat → Nat → L2.St → Hp → Prop, (∃ m, W 0 m σ H) ∧ ∀ i m σ H, W i m σ H →
      ((ItzM K a b).stop i H ∧ D.nx σ H) ∨ ((ItzM K a b).go i H ∧ ∃ N : L2.St → Hp → Prop, (∀ σ' H', N σ' H' → ∃ m', m' < m ∧ W (i + 1) m' σ' H') ∧ ∀ v H', (ItzM K a b).yld i H v H' → g v σ H' fun σ2 H2 => tb { D with nx := N, ct := N, bk := D.nx } σ2 H2) := by
  refine ⟨fun i m σ H => i ≤ xs.length ∧ m + i = xs.length ∧ Pv i σ H, ⟨_, Nat.zero_le _, rfl, h0⟩, ?_⟩
  rintro i m σ H ⟨hi, hm, p⟩
  have ⟨qx, qy⟩ := hq i σ H p
  rcases Nat.lt_or_ge i xs.length with lt | ge
  · have l2 : i < ys.length := hl ▸ lt
    have ex := List.getElem?_eq_getElem lt
    have ey := List.getElem?_eq_getElem l2
    refine .inr ⟨⟨xs, ys, _, _, ⟨qx, ex⟩, qy, ey⟩, Pv (i + 1), fun σ' H' p' => ⟨m - 1, by omega, lt, by omega, p'⟩, ?_⟩
    rintro v H' ⟨T, x', y', ⟨rfl, rfl, hT⟩, f1, f2⟩
    exact hs i x' y' T σ H (f1 _ qx) (f2 _ qy) p hT
  · obtain rfl : i = xs.length := Nat.le_antisymm hi ge
    exact .inl ⟨⟨xs, ys, qx, qy, by omega⟩, hd σ H p⟩
/-- for a, b in zip of a list and a tuple of one length -/
theorem xs_forZM {elts : List Expr} {kk : Nat} {tpos : Pos} (C : Ctx X sc N Vs Ls G k) (hg : Mem G "zip") (hm : X.mg "zip" = none) (h : XA X [a, b] σ H fun vs H1 => ∃ p q xs ys, vs = [.ref p, .ref q] ∧ SqL X.K H1 p xs ∧ SqT X.K H1 q ys ∧ xs.length = ys.length ∧ ∃ Pv : Nat → St → Hp → Prop, Pv 0 σ H1 ∧
    (∀ i σ' H', Pv i σ' H' → SqL X.K H' p xs ∧ SqT X.K H' q ys) ∧ (∀ i x y T σ' H' H2, xs[i]? = some x → ys[i]? = some y → Pv i σ' H' → Kp [] H' H2 → SqT X.K H2 T [x, y] → XG X (.Tuple elts kk tpos) (.ref T) σ' H2 fun σ3 H3 => XB X body (Pv (i + 1)) ⟨D.rt, nx, Pv (i + 1)⟩ σ3 H3) ∧ ∀ σ' H', Pv xs.length σ' H' → nx σ' H')
    (hs : starEach [a, b] X.env = (false, eval a X.env) :: starEach [b] X.env := by rfl) (hpl : (backTo p2 (starEach [b] X.env)).any (·.1) = false := by rfl) (hfs : ∀ x, foldedSetIterable (.Call (.Name "zip" p1) [a, b] [] p2) X.env x = pure x := by intro _; rfl) : XS X (.For (.Tuple elts kk tpos) (.Call (.Name "zip" p1) [a, b] [] p2) body [] pos) nx D σ H := by
  refine ⟨_, ps_for C.po C.calm (pi_zipM (C.gl hg) hm XA.pa hs hpl) XG.pg XB.ps hfs, ?_⟩
  refine XA.mono h fun vs H1 ⟨p, q, xs, ys, e, hx, hy, hl, Pv, h0, hq, hs, hd⟩ => ⟨p, q, xs, ys, e, ⟨hx, hy⟩, ?_⟩
  exact for_zipM (K := X.K) (a := p) (b := q) (xs := xs) (ys := ys) (D := ⟨nx, D.rt, D.bk, D.ct⟩) (g := XG X (.Tuple elts kk tpos)) (tb := fun D σ H => XB X body D.nx ⟨D.rt, D.bk, D.ct⟩ σ H) hl Pv h0 hq
    (fun i x y T σ H hx hy hp hT => hs i x y T σ H _ hx hy hp (Kp.new hT) (.inl (.inl upd_same))) hd
/-- while: a word by a measure -/
theorem xs_while {c : Expr} (C : Ctx X sc N Vs Ls G k) (Pv : Nat → St → Hp → Prop) (h0 : ∃ m, Pv m σ H) (hs : ∀ m σ' H', Pv m σ' H' → XT X c σ' H' fun b H1 => if b = true then XB X body (fun σ2 H2 => ∃ m', m' < m ∧ Pv m' σ2 H2) ⟨D.rt, nx, fun σ2 H2 => ∃ m', m' < m ∧ Pv m' σ2 H2⟩ σ' H1 else nx σ' H1) :
    XS X (.While c body [] pos) nx D σ H := by
  refine ⟨_, ps_while C.po XT.pt XB.ps, Pv, h0, fun m σ' H' p => XT.mono (hs m σ' H' p) fun b H1 q => ?_⟩
  cases b with
  | true => exact ⟨_, fun _ _ z => z, q⟩
  | false => exact q
/-- a, b = a pair -/
theorem xs_asg {tg : Expr} (h : XE X e σ H fun v H1 => XG X tg v σ H1 nx) (hs : swapsWithSole [tg] e pos.line X.env = pure false := by rfl) (hw : swappedStores [tg] e X.env = pure none := by rfl) (h1 : (assignEach [tg] X.env).map (·.2) = [assign tg X.env] := by rfl) : XS X (.Assign [tg] e pos) nx D σ H :=
  ⟨_, ps_asg XE.pe XG.pg hs hw h1, h⟩
theorem xgs_nil {Q : St → Hp → Prop} (h : Q σ H) : XGs X [] [] σ H Q := ⟨_, pgs_nil, rfl, h⟩
theorem xgs_cons {v : V} {vs : List V} {Q : St → Hp → Prop} (h : XG X e v σ H fun σ' H' => XGs X es vs σ' H' Q) (hs : (assignEach (e :: es) X.env).map (·.2) = assign e X.env :: (assignEach es X.env).map (·.2) := by rfl) : XGs X (e :: es) (v :: vs) σ H Q :=
  ⟨_, pgs_cons XG.pg XGs.pgs hs, v, vs, rfl, h⟩
theorem sw_par {env : Env} {x y : Str} {a b : Expr} {px py pt pt2 : Pos} {kt k2 : Nat} (hb : env.blockKind = .function) (hx : env.kindOf x = some .local) (hy : env.kindOf y = some .local) (hxy : ([x, y].eraseDups.length != [x, y].length) = false) (hl : (py.line == px.line) = true)
    (ha : ∀ z p, a ≠ .Starred z p) (hb' : ∀ z p, b ≠ .Starred z p) (hf : [a, b].all (foldedForSure 8) = false) (hc : [a, b].all (constantsAlone 8) = false) : swappedStores [.Tuple [.Name x px, .Name y py] kt pt] (.Tuple [a, b] k2 pt2) env = pure (some [x, y]) := by
  have e1 : (some NameKind.local == some NameKind.local) = true := by decide
  have e2 : (ScopeKind.function != ScopeKind.function) = false := by decide
  unfold swappedStores
  simp only [hb, hf, hc, e2, List.filterMap_cons, List.filterMap_nil, List.head?_cons, Option.map_some, Option.getD_some, Expr.pos, hx, hy, hl, e1, beq_self_eq_true, Bool.and_self, if_true, hxy]
  rw [if_neg (by simp)]
  split
  · rename_i h
    exfalso
    simp only [List.any_cons, List.any_nil, Bool.or_false, Bool.or_eq_true] at h
    cases h
  · rw [if_neg (by simp), if_neg Bool.false_ne_true, if_neg Bool.false_ne_true]
/-- a, b = x, y: plain locals -/
theorem xs_par {x y : Str} {px py pt pt2 : Pos} {kt k2 : Nat} (C : Ctx X sc N Vs Ls G k) (hx : Mem N x) (hy : Mem N y) (hxl : sc.names.lookup x = some .local) (hyl : sc.names.lookup y = some .local) (hxy : ([x, y].eraseDups.length != [x, y].length) = false)
    (h : XE X a σ H fun v H1 => XE X b σ H1 fun u H2 => ∃ σ1 σ2, Put N σ x v σ1 ∧ Put N σ1 y u σ2 ∧ nx σ2 H2) (hl : (py.line == px.line) = true := by rfl) (ha : ∀ z p, a ≠ .Starred z p := by intro _ _ h; cases h) (hb' : ∀ z p, b ≠ .Starred z p := by intro _ _ h; cases h) (hf : [a, b].all (foldedForSure 8) = false := by rfl) (hc : [a, b].all (constantsAlone 8) = false := by rfl)
    (hst : starEach (a :: b :: []) X.env = (false, eval a X.env) :: starEach (b :: []) X.env := by rfl) (hst2 : starEach (b :: []) X.env = (false, eval b X.env) :: starEach [] X.env := by rfl)
    (hs : swapsWithSole [.Tuple [.Name x px, .Name y py] kt pt] (.Tuple [a, b] k2 pt2) pos.line X.env = pure false := by rfl) : XS X (.Assign [.Tuple [.Name x px, .Name y py] kt pt] (.Tuple [a, b] k2 pt2) pos) nx D σ H := by
  obtain ⟨i, hi⟩ := List.getElem?_of_mem hx.mem
  obtain ⟨j, hj⟩ := List.getElem?_of_mem hy.mem
  have hij : i ≠ j := fun e => by
    subst e
    rw [hi] at hj
    cases Option.some.inj hj
    exact absurd hxy (by simp [List.eraseDups_cons])
  have hxl' : X.env.scope.names.lookup x = some .local := by rw [C.esc]; exact hxl
  have hyl' : X.env.scope.names.lookup y = some .local := by rw [C.esc]; exact hyl
  have hb : X.env.blockKind = .function := by unfold Env.blockKind; rw [C.esc, C.knd]; rfl
  refine ⟨_, ps_par (i := i) (j := j) C.calm (by rw [C.hN]; exact C.nd) (by rw [C.hN]; exact hi) (by rw [C.hN]; exact hj) hij hxl' hyl' XA.pa (sw_par hb hxl' hyl' hxy hl ha hb' hf hc) hs, ?_⟩
  refine xa_cons (hs := hst) (XE.mono h fun v H1 h => xa_cons (hs := hst2) (XE.mono h fun u H2 ⟨σ1, σ2, p1, p2, q⟩ => xa_nil ?_))
  refine ⟨v, u, rfl, ?_⟩
  obtain ⟨i', hi', e1⟩ := p1.ix
  obtain ⟨j', hj', e2⟩ := p2.ix
  have ei : i = i' := nd_ix C.nd hi hi'
  have ej : j = j' := nd_ix C.nd hj hj'
  subst ei; subst ej
  show nx ((σ.set i (some v)).set j (some u)) H2
  rw [e1, e2]; exact q
/-- xs[::-1] -/
theorem xe_revL {j : Nat} {p4 : Pos} (h : XE X a σ H fun v H1 => ∃ p xs, v = .ref p ∧ SqL X.K H1 p xs ∧ ∀ r H', Kp [] H1 H' → H1 r = none → H' r = some (.lst xs.reverse) → Q (.ref r) H') : XE X (.Subscript a (.Slice none none (some (.UnaryOp .USub (.Constant (.int 1) j p1) p2)) p3) p4) σ H Q :=
  ⟨_, pe_revL XE.pe, h.mono fun v H1 ⟨p, xs, e, hx, q⟩ => ⟨p, xs, e, hx, new_ q⟩⟩
theorem XS.imp {nx' : St → Hp → Prop} (h : XS X s nx D σ H) (m : ∀ σ H, nx σ H → nx' σ H) : XS X s nx' D σ H := by
  obtain ⟨t, ht, q⟩ := h
  refine ⟨fun D σ H => ∃ nx0, t ⟨nx0, D.rt, D.bk, D.ct⟩ σ H ∧ ∀ σ H, nx0 σ H → D.nx σ H, ⟨fun pins s σ H D I ⟨nx0, q, m⟩ => thn (ht.run pins s σ H _ I q) fun f s1 z => ?_⟩, nx, q, m⟩
  cases f with
  | next => obtain ⟨σ', H', I', z⟩ := z; exact ⟨σ', H', I', m _ _ z⟩
  | brk => exact z
  | cont => exact z
  | ret u => exact z

/-! ## comprehensions -/
def XLC (X : Cx) (elt tg iter : Expr) (ifs : List Expr) (scope : Scope) (σ : St) (H : Hp) (Q : VK) : Prop := ∃ (wi : TI) (g : TG) (tt : TT) (te : TE) (own : List (Str × Nat)), PI X tg iter wi ∧ BlkOk X.N X.env.scope scope own ∧
  (∀ (s : Shared) (H : Hp) (c : Addr) (cl : List (Str × Addr)) (fp : List Addr), PG (X.blk s H scope (compEnvC scope cl c X.env) fp) tg g) ∧ (∀ (s : Shared) (H : Hp) (c : Addr) (cl : List (Str × Addr)) (fp : List Addr), PTs (X.blk s H scope (compEnvC scope cl c X.env) fp) ifs tt) ∧
  (∀ (s : Shared) (H : Hp) (c : Addr) (cl : List (Str × Addr)) (fp : List Addr), PE (X.blk s H scope (compEnvC scope cl c X.env) fp) elt te) ∧ (∀ σ H R R', (∀ J H, R J H → R' J H) → wi σ H R → wi σ H R') ∧ tLc wi g tt te (own.map (·.2)) σ H Q
variable {elt : Expr} {ifs : List Expr} {scope : Scope}
theorem tLc_mono {wi : TI} {g : TG} {tt : TT} {te : TE} {vs : List Nat} {Q Q' : VK} (hw : ∀ σ H R R', (∀ J H, R J H → R' J H) → wi σ H R → wi σ H R') (h : tLc wi g tt te vs σ H Q) (m : ∀ v H, Q v H → Q' v H) : tLc wi g tt te vs σ H Q' := by
  refine hw _ _ _ _ (fun J H1 h D hD => ?_) h
  obtain ⟨W, h0, h⟩ := h D hD
  refine ⟨W, h0, fun i n H w => ?_⟩
  rcases h i n H w with ⟨a, b⟩ | b
  · exact .inl ⟨a, m _ _ b⟩
  · exact .inr b
theorem xe_lc (C : Ctx X sc N Vs Ls G k) (h : XLC X elt tg iter ifs scope σ H Q) (hs : ∀ x, foldedSetIterable iter X.env x = pure x := by intro _; rfl) : XE X (.ListComp elt [⟨tg, iter, ifs, 0⟩] scope pos) σ H Q := by
  obtain ⟨wi, g, tt, te, own, h1, h2, h3, h4, h5, h6, q⟩ := h
  exact ⟨_, pe_lc C.calm (by rw [C.hN]; exact C.nd) h1 h2 h3 h4 h5 hs, q⟩
/-- y = [..], y a plain local -/
theorem xs_setLc {y : Str} (C : Ctx X sc N Vs Ls G k) (hm : Mem N y) (hyl : sc.names.lookup y = some .local) (hl : (p1.line == pos.line) = true) (ha : (scope.names.any fun (n, k) => n == y && (k == .local || k == .cell)) = false)
    (h : XLC X elt tg iter ifs scope σ H fun v H1 => ∃ σ', Put N σ y v σ' ∧ nx σ' H1) (hs : ∀ x, foldedSetIterable iter X.env x = pure x := by intro _; rfl) : XS X (.Assign [.Name y p1] (.ListComp elt [⟨tg, iter, ifs, 0⟩] scope pos) p2) nx D σ H := by
  obtain ⟨wi, g, tt, te, own, h1, h2, h3, h4, h5, h6, q⟩ := h
  obtain ⟨i, hi⟩ := List.getElem?_of_mem hm.mem
  have hyl' : X.env.scope.names.lookup y = some .local := by rw [C.esc]; exact hyl
  refine XS.imp (nx := fun σ1 H1 => ∃ v, σ1 = σ.set i (some v) ∧ ∃ σ', Put N σ y v σ' ∧ nx σ' H1) ⟨_, ps_setLc (i := i) C.calm (by rw [C.hN]; exact C.nd) (by rw [C.hN]; exact hi) hyl' (sw_true (by rw [C.esc]; exact C.knd) hyl' hl ha) h1 h2 h3 h4 h5 hs, ?_⟩ ?_
  · exact tLc_mono h6 q fun v H1 z => ⟨v, rfl, z⟩
  · rintro σ1 H1 ⟨v, rfl, σ', hp, q⟩
    obtain ⟨j, hj, e⟩ := hp.ix
    have ij : i = j := nd_ix C.nd hi hj
    subst ij
    rw [e]; exact q
/-- y = [..], y a name that a comprehension reads (a cell) -/
theorem blk_ctx {Vs' G' : List Str} {s : Shared} {H : Hp} {c : Addr} {cl : List (Str × Addr)} {fp : List Addr} (C : Ctx X sc N Vs Ls G k) (h : okC (relS scope sc) Vs' [] G' = true) (hk : scope.kind = .function) :
    Ctx (X.blk s H scope (compEnvC scope cl c X.env) fp) (relS scope sc) N Vs' [] G' k :=
  ⟨C.hN, C.nd, by rw [← C.esc]; rfl, h, C.calm, fun _ m => (nomatch m), PassesOwn.never, hk, C.room⟩

/-- what one turn of a comprehension asks: the target's slot, the test (one or none), the element -/
def XEC (X : Cx) (sc scope : Scope) (N Vs' G' : List Str) (k : Nat) (elt : Expr) : TE := fun σ H Q => ∀ (s0 : Shared) (H0 : Hp) (c : Addr) (cl : List (Str × Addr)) (fp : List Addr), Ctx (X.blk s0 H0 scope (compEnvC scope cl c X.env) fp) (relS scope sc) N Vs' [] G' k → XE (X.blk s0 H0 scope (compEnvC scope cl c X.env) fp) elt σ H Q
def XTC (X : Cx) (sc scope : Scope) (N Vs' G' : List Str) (k : Nat) (elt : Expr) : TT := fun σ H Q => ∀ (s0 : Shared) (H0 : Hp) (c : Addr) (cl : List (Str × Addr)) (fp : List Addr), Ctx (X.blk s0 H0 scope (compEnvC scope cl c X.env) fp) (relS scope sc) N Vs' [] G' k → XT (X.blk s0 H0 scope (compEnvC scope cl c X.env) fp) elt σ H Q
def XTurn (X : Cx) (sc scope : Scope) (N Vs' G' : List Str) (k : Nat) (nm : Str) (ifs : List Expr) (elt : Expr) (σ : St) (y : V) (H : Hp) (L : Addr) (Nx : Hp → Prop) : Prop :=
  ∃ σ', Put N σ nm y σ' ∧ 
    match ifs with
    | [] => XEC X sc scope N Vs' G' k elt σ' H fun z H4 => ∃ acc, H4 L = some (.lst acc) ∧ acc.length < sizeLine ∧ ∀ H5, Kp [L] H4 H5 → H5 L = some (.lst (acc ++ [z])) → Nx H5
    | c' :: _ => XTC X sc scope N Vs' G' k c' σ' H fun b H3 => if b = true then XEC X sc scope N Vs' G' k elt σ' H3 (fun z H4 => ∃ acc, H4 L = some (.lst acc) ∧ acc.length < sizeLine ∧ ∀ H5, Kp [L] H4 H5 → H5 L = some (.lst (acc ++ [z])) → Nx H5) else Nx H3
def teC (X : Cx) (scope : Scope) (elt : Expr) : TE := fun σ H Q => ∀ (s0 : Shared) (H0 : Hp) (c : Addr) (cl : List (Str × Addr)) (fp : List Addr), XE (X.blk s0 H0 scope (compEnvC scope cl c X.env) fp) elt σ H Q
def ttC (X : Cx) (scope : Scope) (ifs : List Expr) : TT := fun σ H Q => match ifs with
  | [] => Q true H
  | c' :: _ => ∀ (s0 : Shared) (H0 : Hp) (c : Addr) (cl : List (Str × Addr)) (fp : List Addr), XT (X.blk s0 H0 scope (compEnvC scope cl c X.env) fp) c' σ H Q
theorem put_wipe {nm : Str} {y : V} {i : Nat} (hN : N[i]? = some nm) (nd : N.Nodup) (hp : Put N σ nm y σ') : (wipe σ [i]).set i (some y) = σ' ∧ wipe σ' [i] = wipe σ [i] := by
  obtain ⟨j, hj, e⟩ := hp.ix
  have ij : i = j := nd_ix nd hN hj
  subst ij
  subst e
  exact ⟨by show (σ.set i none).set i (some y) = _; rw [List.set_set], by show (σ.set i (some y)).set i none = σ.set i none; rw [List.set_set]⟩
section
variable {nm : Str} {i : Nat} {Vs' G' : List Str}
theorem turn_ok (C : Ctx X sc N Vs Ls G k) (hN : N[i]? = some nm) (hV : okC (relS scope sc) Vs' [] G' = true) (hk : scope.kind = .function) (hif : ifs.length ≤ 1) {y : V} {L : Addr} {Nx : Hp → Prop} (h : XTurn X sc scope N Vs' G' k nm ifs elt σ y H L Nx) :
    gName i y (wipe σ [i]) H fun σ2 H2 => wipe σ2 [i] = wipe σ [i] ∧ ttC X scope ifs σ2 H2 fun b H3 => if b = true then teC X scope elt σ2 H3 (fun y H4 => ∃ acc, H4 L = some (.lst acc) ∧ acc.length < sizeLine ∧ Nx (upd H4 L (.lst (acc ++ [y])))) else Nx H3 := by
  obtain ⟨σ', hp, h⟩ := h
  obtain ⟨e1, e2⟩ := put_wipe hN C.nd hp
  show wipe ((wipe σ [i]).set i (some y)) [i] = wipe σ [i] ∧ ttC X scope ifs ((wipe σ [i]).set i (some y)) H _
  rw [e1]
  refine ⟨e2, ?_⟩
  have fin : ∀ H3, XEC X sc scope N Vs' G' k elt σ' H3 (fun z H4 => ∃ acc, H4 L = some (.lst acc) ∧ acc.length < sizeLine ∧ ∀ H5, Kp [L] H4 H5 → H5 L = some (.lst (acc ++ [z])) → Nx H5) →
      teC X scope elt σ' H3 (fun y H4 => ∃ acc, H4 L = some (.lst acc) ∧ acc.length < sizeLine ∧ Nx (upd H4 L (.lst (acc ++ [y])))) := fun H3 h s0 H0 c cl fp =>
    (h s0 H0 c cl fp (blk_ctx C hV hk)).mono fun v H4 ⟨acc, h1, h2, h3⟩ => ⟨acc, h1, h2, h3 _ (Kp.set h1 rfl) upd_same⟩
  cases ifs with
  | nil =>
    exact iteT (B := Nx H) (fin H h)
  | cons c' r =>
    intro s0 H0 c cl fp
    refine (h s0 H0 c cl fp (blk_ctx C hV hk)).mono fun b H3 q => ?_
    cases b with
    | false => exact q
    | true => exact fin H3 q
theorem pg_blk (C : Ctx X sc N Vs Ls G k) (hN : N[i]? = some nm) (hl : (relS scope sc).names.lookup nm = some .local) {s0 : Shared} {H0 : Hp} {c : Addr} {cl : List (Str × Addr)} {fp : List Addr} : PG (X.blk s0 H0 scope (compEnvC scope cl c X.env) fp) (.Name nm p1) (gName i) := by
  have e : (compEnvC scope cl c X.env).scope = relS scope sc := by rw [← C.esc]; rfl
  refine pg_name (X := X.blk s0 H0 scope (compEnvC scope cl c X.env) fp) (i := i) (by show X.N.Nodup; rw [C.hN]; exact C.nd) (by show X.N[i]? = _; rw [C.hN]; exact hN) (.inl ?_) (.inr ?_)
  · show (compEnvC scope cl c X.env).scope.names.lookup nm = _
    rw [e]; exact hl
  · show (compEnvC scope cl c X.env).scope.names.lookup nm = _
    rw [e]; exact hl
theorem pts_blk (hif : ifs.length ≤ 1) {s0 : Shared} {H0 : Hp} {c : Addr} {cl : List (Str × Addr)} {fp : List Addr} : PTs (X.blk s0 H0 scope (compEnvC scope cl c X.env) fp) ifs (ttC X scope ifs) := by
  cases ifs with
  | nil => exact pts_nil
  | cons c' r =>
    cases r with
    | nil => exact pts_one ⟨fun pins s σ H Q I h => (XT.pt).run pins s σ H Q I (h s0 H0 c cl fp)⟩
    | cons _ _ => simp at hif
theorem pe_blk {s0 : Shared} {H0 : Hp} {c : Addr} {cl : List (Str × Addr)} {fp : List Addr} : PE (X.blk s0 H0 scope (compEnvC scope cl c X.env) fp) elt (teC X scope elt) := ⟨fun pins s σ H Q I h => (XE.pe).run pins s σ H Q I (h s0 H0 c cl fp)⟩
/-- the closed facts of a comprehension: its target's name and slot, what it reads -/
structure LcOk (sc scope : Scope) (N Vs' G' : List Str) (nm : Str) (i : Nat) (ifs : List Expr) : Prop where
  hN : N[i]? = some nm
  blk : blkC N sc scope [(nm, i)] = true
  rd : okC (relS scope sc) Vs' [] G' = true
  knd : scope.kind = .function
  own : (relS scope sc).names.lookup nm = some .local
  one : ifs.length ≤ 1
theorem xlc_R1 (C : Ctx X sc N Vs Ls G k) (O : LcOk sc scope N Vs' G' nm i ifs) (hg : Mem G "range") (hm : X.mg "range" = none)
    (h : XA X [a] σ H fun vs H1 => ∃ j : Int, vs = [.int j] ∧ -(2 ^ 62) ≤ j ∧ j < 2 ^ 62 ∧ ∀ L H2, Kp [] H1 H2 → H1 L = none → H2 L = some (.lst []) → ∃ Pv : Nat → Hp → Prop, Pv 0 H2 ∧
      (∀ t H', t < j.toNat → Pv t H' → XTurn X sc scope N Vs' G' k nm ifs elt σ (.int t) H' L (Pv (t + 1))) ∧ ∀ H', Pv j.toNat H' → Q (.ref L) H')
    (hst : starEach [a] X.env = [(false, eval a X.env)] := by rfl) : XLC X elt (.Name nm p1) (.Call (.Name "range" p2) [a] [] pos) ifs scope σ H Q := by
  refine ⟨_, gName i, ttC X scope ifs, teC X scope elt, [(nm, i)], pi_range1 (C.gl hg) hm XA.pa hst, blkOk_by (by rw [C.hN, C.esc]; exact O.blk), fun _ _ _ _ _ => pg_blk C O.hN O.own, fun _ _ _ _ _ => pts_blk O.one, fun _ _ _ _ _ => pe_blk,
    fun σ H R R' m h => h.mono fun vs H1 ⟨j, e, h1, h2, q⟩ => ⟨j, e, h1, h2, m _ _ q⟩, ?_⟩
  refine h.mono fun vs H1 ⟨j, e, h1, h2, h⟩ => ⟨j, e, h1, h2, fun L hL => ?_⟩
  obtain ⟨Pv, h0, hs, hd⟩ := h L _ (Kp.new hL) hL upd_same
  refine lc_range (lo := 0) (n := j.toNat) Pv h0 (fun t H' ht p => ?_) hd
  rw [Int.zero_add]
  exact turn_ok C O.hN O.rd O.knd O.one (hs t H' ht p)
theorem xlc_L (C : Ctx X sc N Vs Ls G k) (O : LcOk sc scope N Vs' G' nm i ifs)
    (h : XE X iter σ H fun v H1 => ∃ a xs, v = .ref a ∧ SqL X.K H1 a xs ∧ ∀ L H2, Kp [] H1 H2 → H1 L = none → H2 L = some (.lst []) → ∃ Pv : Nat → Hp → Prop, Pv 0 H2 ∧ (∀ t H', t ≤ xs.length → Pv t H' → SqL X.K H' a xs) ∧
      (∀ t y H', xs[t]? = some y → Pv t H' → XTurn X sc scope N Vs' G' k nm ifs elt σ y H' L (Pv (t + 1))) ∧ ∀ H', Pv xs.length H' → Q (.ref L) H') : XLC X elt (.Name nm p1) iter ifs scope σ H Q := by
  refine ⟨_, gName i, ttC X scope ifs, teC X scope elt, [(nm, i)], pi_list XE.pe, blkOk_by (by rw [C.hN, C.esc]; exact O.blk), fun _ _ _ _ _ => pg_blk C O.hN O.own, fun _ _ _ _ _ => pts_blk O.one, fun _ _ _ _ _ => pe_blk,
    fun σ H R R' m h => h.mono fun v H1 ⟨a, e, h1, q⟩ => ⟨a, e, h1, m _ _ q⟩, ?_⟩
  refine h.mono fun v H1 ⟨a, xs, e, hx, h⟩ => ⟨a, e, ⟨xs, hx⟩, fun L hL => ?_⟩
  obtain ⟨Pv, h0, hl, hs, hd⟩ := h L _ (Kp.new hL) hL upd_same
  exact lc_list (K := X.K) (a := a) (xs := xs) Pv h0 hl (fun t y H' ht p => turn_ok C O.hN O.rd O.knd O.one (hs t y H' ht p)) hd
end

/-! ## a def and its body -/
def st0 : List Str → List V → St
  | [], _ => []
  | _ :: N, v :: vs => some v :: st0 N vs
  | _ :: N, [] => none :: st0 N []
theorem st0_nil : ∀ N : List Str, st0 N [] = List.replicate N.length none
  | [] => rfl
  | _ :: N => by show none :: st0 N [] = _; rw [st0_nil N]; rfl
theorem start_eq : ∀ (N : List Str) (vs : List V), vs.length ≤ N.length → start N vs = st0 N vs
  | [], [], _ => rfl
  | [], _ :: _, h => by simp at h
  | x :: N, [], _ => by rw [st0_nil]; rfl
  | x :: N, v :: vs, h => by
    show some v :: (vs.map some ++ List.replicate (N.length + 1 - (vs.length + 1)) none) = some v :: st0 N vs
    rw [← start_eq N vs (by simpa using h), Nat.add_sub_add_right]; rfl
/-- where a def stands -/
structure DefAt (K : PySem.W.Frag) (mg : Str → Option Value) (x qual : Str) (st : Stmt) (ps : List Str) : Prop where
  ex : ∃ f fd, Fun K x qual st f fd ∧ mg x = some (.ref f) ∧ Binds K fd ps []
end
section
variable {P : Program} {w : World} {K : PySem.W.Frag} {mg : Str → Option Value} {base : Heap}
theorem fnOk_by {x qual : Str} {st : Stmt} {f : Addr} {fd : FuncData} {N Vs ps G : List Str} {k : Nat} {sp : Sp} (F : Fun K x qual st f fd) (S : FnScope N ps (defScope st)) (ok : okC (defScope st) Vs Vs G = true) (len : ∀ vs H Q E, sp vs H Q E → vs.length = ps.length)
    (hbody : ∀ X : Cx, X.prog = P → X.w = w → X.K = K → X.mg = mg → X.base = base → Ctx X (defScope st) N Vs Vs G k → ∀ (H : Hp) (vs : List V) (Q : VK) (E : XK), sp vs H Q E → XB X (defBody st) (fun _ H' => Q .non H') ⟨Q, fun _ _ => False, fun _ _ => False⟩ (st0 N vs) H) :
    FnOk P w K mg base CX0 (k + 1) f fd ps sp := by
  refine F.ok S len (fun cdv A outer s H vs Q E hr h => ?_)
  have hl : vs.length ≤ N.length := by
    rw [len vs H Q E h]
    have := S.pre
    rw [← this, List.length_take]; exact Nat.min_le_right _ _
  rw [start_eq N vs hl]
  obtain ⟨t, h1, q⟩ := hbody ((cxOf CX0 P w K mg base N qual (defScope st) f cdv A outer s H E).nox) rfl rfl rfl rfl rfl ⟨rfl, S.nd, rfl, ok, rfl, fun _ _ => rfl, PassesOwn.never, S.kind, hr⟩ H vs Q E h
  exact ⟨t, h1, q⟩
theorem DefOk.by {x qual : Str} {st : Stmt} {N Vs ps G : List Str} {k : Nat} {sp : Sp} (F : DefAt K mg x qual st ps) (S : FnScope N ps (defScope st)) (ok : okC (defScope st) Vs Vs G = true) (len : ∀ vs H Q E, sp vs H Q E → vs.length = ps.length)
    (hbody : ∀ X : Cx, X.prog = P → X.w = w → X.K = K → X.mg = mg → X.base = base → Ctx X (defScope st) N Vs Vs G k → ∀ (H : Hp) (vs : List V) (Q : VK) (E : XK), sp vs H Q E → XB X (defBody st) (fun _ H' => Q .non H') ⟨Q, fun _ _ => False, fun _ _ => False⟩ (st0 N vs) H) :
    DefOk P w K mg base x ps (k + 1) sp := by
  obtain ⟨f, fd, F, hm, hb⟩ := F.ex
  exact ⟨f, fd, fnOk_by F S ok len hbody, hm, F.kp, hb⟩
/-- a class of the module that is made by its __init__ -/
structure ClsOk (P : Program) (w : World) (K : PySem.W.Frag) (mg : Str → Option Value) (base : Heap) (x : Str) (C : Addr) (ps : List Str) (k : Nat) (sp : Sp) : Prop where
  ex : ∃ f fd, FnOk P w K mg base CX0 k f fd ps sp ∧ mg x = some (.ref C) ∧ Mk K C f ∧ Binds K fd ps []
theorem xe_make {X : Cx} {sc : Scope} {N Vs Ls G : List Str} {k k' : Nat} {x : Str} {C : Addr} {ps : List Str} {sp : Sp} {a : Expr} {es : List Expr} {p1 pos : Pos} {σ : St} {H : Hp} {Q : VK} (Cc : Ctx X sc N Vs Ls G k) (F : ClsOk X.prog X.w X.K X.mg X.base x C ps k' sp) (hg : Mem G x) (hk : k' + 1 ≤ k)
    (h : XA X (a :: es) σ H fun vs H1 => ∀ z dx, H1 z = none → H1 dx = none → dx ≠ z → sp (.ref z :: vs) (upd (upd H1 dx (.own z)) z (.ins C dx [])) (fun v H2 => v = .non ∧ Q (.ref z) H2) E0)
    (hdb : (x == ("__debug__" : Str)) = false := by decide) (he : starEach (a :: es) X.env = (false, eval a X.env) :: starEach es X.env := by rfl) (hpl : (backTo pos (starEach es X.env)).any (·.1) = false := by rfl) : XE X (.Call (.Name x p1) (a :: es) [] pos) σ H Q := by
  obtain ⟨f, fd, F, hm, M, b⟩ := F.ex
  refine ⟨_, pe_make M F (Cc.room.mono hk) (Cc.gl hg) hm b .nil pass0 XA.pa hdb he hpl, ?_⟩
  refine XA.mono h fun vs H1 q z dx h1 h2 h3 => ?_
  rw [List.append_nil]; exact q z dx h1 h2 h3
/-- an instance: its own dict besides -/
theorem Kp.made {H : Hp} {z dx C : Addr} (h1 : H z = none) (h2 : H dx = none) (h3 : dx ≠ z) : Kp [] H (upd (upd H dx (.own z)) z (.ins C dx [])) :=
  (Kp.new h2).tr0 (Kp.new (by rw [upd_ne (Ne.symm h3)]; exact h1))
/-- o.f = v -/
theorem xs_fld {X : Cx} {o value : Expr} {f : Str} {p1 pos : Pos} {σ : St} {H : Hp} {nx : St → Hp → Prop} {D : B3} (h : XE X value σ H fun y H1 => XE X o σ H1 fun z H2 => ∃ a C dx fs, z = .ref a ∧ H2 a = some (.ins C dx fs) ∧ Cls X.K C ∧ NoAttr X.K C f ∧ fs.length < 1000 ∧ ∀ H', Kp [a] H2 H' → H' a = some (.ins C dx (putF f y fs)) → nx σ H')
    (hs : swapsWith value (some (.Attribute o f p1)) pos.line X.env = pure false := by rfl) : XS X (.Assign [.Attribute o f p1] value pos) nx D σ H := by
  refine ⟨_, ps_fld XE.pe XE.pe hs, ?_⟩
  refine XE.mono h fun y H1 h => XE.mono h fun z H2 ⟨a, C, dx, fs, e, ha, c, n, l, q⟩ => ⟨a, C, dx, fs, e, ha, c, n, l, ?_⟩
  exact q _ (Kp.set ha rfl) upd_same

end

/-! ## data of any depth -/
theorem canLay_ints : ∀ ns : List Int, PyData.canLayAll0 (ns.map PyData.int) = true
  | [] => by simp [PyData.canLayAll0]
  | n :: ns => by simp [PyData.canLayAll0, PyData.canLay0, canLay_ints ns]
theorem depth_ints : ∀ ns : List Int, PyData.depthAll (ns.map PyData.int) = 0
  | [] => by simp [PyData.depthAll]
  | n :: ns => by simp [PyData.depthAll, PyData.depth, depth_ints ns]
theorem shT (ns : List Int) : SeqAt.shaped (.tuple (ns.map PyData.int)) = true := by simp [SeqAt.shaped, PyData.canLay0, PyData.depth, canLay_ints, depth_ints]
theorem shL (ns : List Int) : SeqAt.shaped (.list (ns.map PyData.int)) = true := by simp [SeqAt.shaped, PyData.canLay0, PyData.depth, canLay_ints, depth_ints]
theorem dpAll_ints {K : PySem.W.Frag} {H : Hp} : ∀ ns : List Int, DpAll K H (ns.map V.int) (ns.map PyData.int)
  | [] => .nil
  | n :: ns => .cons (.int n) (dpAll_ints ns)
theorem dp_T {K : PySem.W.Frag} {H : Hp} {p : Addr} {ns : List Int} (h : SqT K H p (ns.map V.int)) : Dp K H (.ref p) (.tuple (ns.map PyData.int)) := .tup h (dpAll_ints ns)
theorem dp_L {K : PySem.W.Frag} {H : Hp} {p : Addr} {ns : List Int} (h : SqL K H p (ns.map V.int)) : Dp K H (.ref p) (.list (ns.map PyData.int)) := .lst h (dpAll_ints ns)
mutual
theorem dp_kp {K : PySem.W.Frag} {H H' : Hp} (k : Kp [] H H') : ∀ {d : PyData} {v : V}, Dp K H v d → Dp K H' v d
  | _, _, .non => .non
  | _, _, .bl b => .bl b
  | _, _, .int i => .int i
  | _, _, .str x => .str x
  | _, _, .lst h a => .lst (k.lst0 h) (dpAll_kp k a)
  | _, _, .tup h a => .tup (k.tup h) (dpAll_kp k a)
theorem dpAll_kp {K : PySem.W.Frag} {H H' : Hp} (k : Kp [] H H') : ∀ {ds : List PyData} {vs : List V}, DpAll K H vs ds → DpAll K H' vs ds
  | _, _, .nil => .nil
  | _, _, .cons h a => .cons (dp_kp k h) (dpAll_kp k a)
end
theorem eqv_T (ns ms : List Int) : PyData.eqv (.tuple (ns.map PyData.int)) (.tuple (ms.map PyData.int)) = decide (ns = ms) := by rw [PyData.eqv, PySem.W.ked_eqvAll]
theorem eqv_L (ns ms : List Int) : PyData.eqv (.list (ns.map PyData.int)) (.list (ms.map PyData.int)) = decide (ns = ms) := by rw [PyData.eqv, PySem.W.ked_eqvAll]
section
variable {X : Cx} {σ : St} {H : Hp} {Q : VK} {N Vs Ls G : List Str} {k : Nat} {sc : Scope} {v u : V} {d e : PyData} {p q : Addr} {ns ms : List Int}
theorem vo_eqD (C : Ctx X sc N Vs Ls G k) (hd : Dp X.K H v d) (he : Dp X.K H u e) (sd : SeqAt.shaped d = true) (se : SeqAt.shaped e = true) (h : Q (.bl (PyData.eqv d e)) H) : VO X (compareOp .Eq) v u H Q := ⟨_, op_eqD C.room.units, d, e, hd, he, sd, se, h⟩
theorem vo_neD (C : Ctx X sc N Vs Ls G k) (hd : Dp X.K H v d) (he : Dp X.K H u e) (sd : SeqAt.shaped d = true) (se : SeqAt.shaped e = true) (h : Q (.bl (!PyData.eqv d e)) H) : VO X (compareOp .NotEq) v u H Q := ⟨_, op_neD C.room.units, d, e, hd, he, sd, se, h⟩
theorem vo_eqSame (C : Ctx X sc N Vs Ls G k) (hd : Dp X.K H v d) (he : Dp X.K H u d) (sd : SeqAt.shaped d = true) (h : Q (.bl true) H) : VO X (compareOp .Eq) v u H Q := vo_eqD C hd he sd sd (by rw [SeqAt.eqv_refl d (SeqAt.canLay_of_shaped sd)]; exact h)
theorem vo_neSame (C : Ctx X sc N Vs Ls G k) (hd : Dp X.K H v d) (he : Dp X.K H u d) (sd : SeqAt.shaped d = true) (h : Q (.bl false) H) : VO X (compareOp .NotEq) v u H Q := vo_neD C hd he sd sd (by rw [SeqAt.eqv_refl d (SeqAt.canLay_of_shaped sd)]; exact h)
theorem vo_eqT (C : Ctx X sc N Vs Ls G k) (hd : SqT X.K H p (ns.map V.int)) (he : SqT X.K H q (ms.map V.int)) (h : Q (.bl (decide (ns = ms))) H) : VO X (compareOp .Eq) (.ref p) (.ref q) H Q := vo_eqD C (dp_T hd) (dp_T he) (shT _) (shT _) (by rw [eqv_T]; exact h)
theorem vo_neT (C : Ctx X sc N Vs Ls G k) (hd : SqT X.K H p (ns.map V.int)) (he : SqT X.K H q (ms.map V.int)) (h : Q (.bl (!decide (ns = ms))) H) : VO X (compareOp .NotEq) (.ref p) (.ref q) H Q := vo_neD C (dp_T hd) (dp_T he) (shT _) (shT _) (by rw [eqv_T]; exact h)
theorem vo_eqI (C : Ctx X sc N Vs Ls G k) (hd : SqL X.K H p (ns.map V.int)) (he : SqL X.K H q (ms.map V.int)) (h : Q (.bl (decide (ns = ms))) H) : VO X (compareOp .Eq) (.ref p) (.ref q) H Q := vo_eqD C (dp_L hd) (dp_L he) (shL _) (shL _) (by rw [eqv_L]; exact h)
theorem vo_neI (C : Ctx X sc N Vs Ls G k) (hd : SqL X.K H p (ns.map V.int)) (he : SqL X.K H q (ms.map V.int)) (h : Q (.bl (!decide (ns = ms))) H) : VO X (compareOp .NotEq) (.ref p) (.ref q) H Q := vo_neD C (dp_L hd) (dp_L he) (shL _) (shL _) (by rw [eqv_L]; exact h)
end

/-- the body of a for, of a while -/
def forBody : Stmt → List Stmt
  | .For _ _ b _ _ => b
  | .While _ b _ _ => b
  | _ => []
/-- what a return returns -/
def retE : Stmt → Expr
  | .Return (some e) _ => e
  | _ => .Constant .none 0 ⟨0, 0, 0, 0⟩
def ifBody : Stmt → List Stmt
  | .If _ b _ _ => b
  | _ => []
def ifElse : Stmt → List Stmt
  | .If _ _ b _ => b
  | _ => []
/-! ## a list or a tuple; types -/
def Sq (K : PySem.W.Frag) (H : Hp) (p : Addr) (xs : List V) : Prop := SqL K H p xs ∨ SqT K H p xs
theorem vc_lenS {X : Cx} {H : Hp} {Q : VK} {p : Addr} {xs : List V} (hx : Sq X.K H p xs) (h : Q (.int xs.length) H) : VC X (.builtin "len") [.ref p] H Q := hx.elim (fun z => vc_lenL z h) fun z => vc_lenT z h
theorem vx_S {X : Cx} {H : Hp} {Q : VK} {p : Addr} {xs : List V} {i : Int} {v : V} (hx : Sq X.K H p xs) (hi : atI xs i = some v) (h : Q v H) : VX X (.ref p) (.int i) H Q := hx.elim (fun z => vx_lst z hi h) fun z => vx_tup z hi h
theorem ty_T {K : PySem.W.Frag} {H : Hp} {p : Addr} {xs : List V} (h : SqT K H p xs) : TyX K H (.ref p) (.type "tuple") := by
  rcases h with (h | ⟨o, h⟩) | ⟨o, its, n, h1, h2, _⟩
  · exact .base (.tup h)
  · exact .fTuple h
  · exact .kTuple h1 h2
theorem ty_L {K : PySem.W.Frag} {H : Hp} {p : Addr} {xs : List V} (h : SqL K H p xs) : TyX K H (.ref p) (.type "list") := by
  rcases h with (h | ⟨o, h⟩) | ⟨o, its, n, h1, h2, _⟩
  · exact .base (.lst h)
  · exact .base (.frz h)
  · exact .kList h1 h2
theorem dpAll_len {K : PySem.W.Frag} {H : Hp} : ∀ {vs : List V} {ds : List PyData}, DpAll K H vs ds → vs.length = ds.length
  | _, _, .nil => rfl
  | _, _, .cons _ a => by rw [List.length_cons, List.length_cons, dpAll_len a]
theorem dpAll_at {K : PySem.W.Frag} {H : Hp} : ∀ {vs : List V} {ds : List PyData} {i : Nat} {d : PyData}, DpAll K H vs ds → ds[i]? = some d → ∃ v, vs[i]? = some v ∧ Dp K H v d
  | _, _, _, _, .nil, e => by simp at e
  | _, _, 0, _, .cons h _, e => ⟨_, rfl, by simp at e; rw [← e]; exact h⟩
  | _, _, i + 1, _, .cons _ a, e => by
    obtain ⟨v, h1, h2⟩ := dpAll_at (i := i) a (by simpa using e)
    exact ⟨v, by simpa using h1, h2⟩
theorem depth_at : ∀ {ds : List PyData} {i : Nat} {d : PyData}, ds[i]? = some d → PyData.depth d ≤ PyData.depthAll ds
  | [], _, _, e => by simp at e
  | x :: xs, 0, d, e => by
    have e' : x = d := by simpa using e
    rw [PyData.depthAll, e']; omega
  | x :: xs, i + 1, d, e => by
    have := depth_at (ds := xs) (i := i) (d := d) (by simpa using e)
    rw [PyData.depthAll]; omega

/-! ## small things of tests -/
theorem ite_d {p A B : Prop} [Decidable p] (h1 : p → A) (h2 : ¬ p → B) : if decide p = true then A else B := by
  by_cases h : p
  · rw [if_pos (decide_eq_true h)]; exact h1 h
  · rw [if_neg (by simp [h])]; exact h2 h
theorem ite_nd {p A B : Prop} [Decidable p] (h1 : ¬ p → A) (h2 : p → B) : if (!decide p) = true then A else B := by
  by_cases h : p
  · rw [if_neg (by simp [h])]; exact h2 h
  · rw [if_pos (by simp [h])]; exact h1 h
theorem ite_b {c : Bool} {A B : Prop} (h1 : c = true → A) (h2 : c = false → B) : if c = true then A else B := by
  cases c with
  | true => exact iteT (h1 rfl)
  | false => exact iteF (h2 rfl)
theorem ite_NT {A B : Prop} (h : B) : if (!true) = true then A else B := h
theorem ite_NF {A B : Prop} (h : A) : if (!false) = true then A else B := h
theorem ex_bl {c : Bool} {R : Bool → Prop} (h : R c) : ∃ k, V.bl c = V.bl k ∧ R k := ⟨c, rfl, h⟩
theorem tr_bl {K : PySem.W.Frag} {c : Bool} {H : Hp} {R : Bool → Prop} (h : R c) : ∃ k, TruV K (.bl c) H k ∧ R k := ⟨c, rfl, h⟩
theorem at0 {α : Type} {a : α} {l : List α} : atI (a :: l) 0 = some a := atI_nat (j := 0) rfl
theorem at1 {α : Type} {a b : α} {l : List α} : atI (a :: b :: l) 1 = some b := atI_nat (j := 1) rfl
theorem at2 {α : Type} {a b c : α} {l : List α} : atI (a :: b :: c :: l) 2 = some c := atI_nat (j := 2) rfl
theorem at3 {α : Type} {a b c d : α} {l : List α} : atI (a :: b :: c :: d :: l) 3 = some d := atI_nat (j := 3) rfl
theorem at4 {α : Type} {a b c d e : α} {l : List α} : atI (a :: b :: c :: d :: e :: l) 4 = some e := atI_nat (j := 4) rfl
theorem at5 {α : Type} {a b c d e f : α} {l : List α} : atI (a :: b :: c :: d :: e :: f :: l) 5 = some f := atI_nat (j := 5) rfl
theorem ix0 {n : Nat} : ixN (n + 1) 0 = some 0 := by
  unfold ixN; rw [if_pos (by decide), if_pos (by omega)]; rfl
theorem ix1 {n : Nat} : ixN (n + 2) 1 = some 1 := by
  unfold ixN; rw [if_pos (by decide), if_pos (by omega)]; rfl
theorem sz_ {n : Nat} (h : n ≤ 100000) : n ≤ sizeLine := Nat.le_trans h (by decide)
theorem szl {n : Nat} (h : n < 100000) : n < sizeLine := Nat.lt_of_lt_of_le h (by decide)
theorem sz_lt_ {n : Nat} (h : n < 100000) : n < sizeLine := szl h
theorem cmulL {i j : Int} (h : -(2 ^ 64) < i ∧ i < 2 ^ 64) : CMul i j := .inl h
theorem cmulR {i j : Int} (h : -(2 ^ 64) < j ∧ j < 2 ^ 64) : CMul i j := .inr h
theorem map_at {ns : List Int} {i : Nat} {y : V} (h : (ns.map V.int)[i]? = some y) : ∃ n, ns[i]? = some n ∧ y = .int n := by
  rw [List.getElem?_map] at h
  cases e : ns[i]? with
  | none => rw [e] at h; cases h
  | some n => rw [e] at h; exact ⟨n, rfl, (Option.some.inj h).symm⟩
theorem at_map {ns : List Int} {i : Int} {n : Int} (h0 : 0 ≤ i) (h : ns[i.toNat]? = some n) : atI (ns.map V.int) i = some (.int n) := by
  have e : i = (i.toNat : Int) := by omega
  rw [e]; exact atI_nat (by rw [List.getElem?_map, h]; rfl)

section
variable {X : Cx} {H : Hp} {Q : VK} {p : Addr} {a b c d e f : V} {l : List V}
theorem vx_t0 (hx : SqT X.K H p (a :: l)) (h : Q a H) : VX X (.ref p) (.int 0) H Q := vx_tup hx at0 h
theorem vx_t1 (hx : SqT X.K H p (a :: b :: l)) (h : Q b H) : VX X (.ref p) (.int 1) H Q := vx_tup hx at1 h
theorem vx_t2 (hx : SqT X.K H p (a :: b :: c :: l)) (h : Q c H) : VX X (.ref p) (.int 2) H Q := vx_tup hx at2 h
theorem vx_t3 (hx : SqT X.K H p (a :: b :: c :: d :: l)) (h : Q d H) : VX X (.ref p) (.int 3) H Q := vx_tup hx at3 h
theorem vx_t4 (hx : SqT X.K H p (a :: b :: c :: d :: e :: l)) (h : Q e H) : VX X (.ref p) (.int 4) H Q := vx_tup hx at4 h
theorem vx_t5 (hx : SqT X.K H p (a :: b :: c :: d :: e :: f :: l)) (h : Q f H) : VX X (.ref p) (.int 5) H Q := vx_tup hx at5 h
theorem vx_l0 (hx : SqL X.K H p (a :: l)) (h : Q a H) : VX X (.ref p) (.int 0) H Q := vx_lst hx at0 h
theorem vx_l1 (hx : SqL X.K H p (a :: b :: l)) (h : Q b H) : VX X (.ref p) (.int 1) H Q := vx_lst hx at1 h
theorem vx_l2 (hx : SqL X.K H p (a :: b :: c :: l)) (h : Q c H) : VX X (.ref p) (.int 2) H Q := vx_lst hx at2 h
theorem vx_l3 (hx : SqL X.K H p (a :: b :: c :: d :: l)) (h : Q d H) : VX X (.ref p) (.int 3) H Q := vx_lst hx at3 h
end
/-! ## facts that a frame of new things carries over -/
theorem Kp.lstN {K : PySem.W.Frag} {A : List Addr} {H H' : Hp} {p : Addr} {xs : List V} (a : Kp A H H') (n : ∀ l ∈ A, H l = none) (h : SqL K H p xs) : SqL K H' p xs := by
  rcases h with (h | ⟨o, h⟩) | h
  · exact .inl (.inl (a.k _ _ (fun m => by rw [n _ m] at h; cases h) h))
  · exact .inl (.inr ⟨o, a.z _ _ _ h⟩)
  · exact .inr h
theorem Kp.atN {A : List Addr} {H H' : Hp} {p : Addr} {o : HO} (a : Kp A H H') (n : ∀ l ∈ A, H l = none) (h : H p = some o) : H' p = some o := a.k _ _ (fun m => by rw [n _ m] at h; cases h) h
mutual
theorem dp_kpN {K : PySem.W.Frag} {A : List Addr} {H H' : Hp} (k : Kp A H H') (n : ∀ l ∈ A, H l = none) : ∀ {d : PyData} {v : V}, Dp K H v d → Dp K H' v d
  | _, _, .non => .non
  | _, _, .bl b => .bl b
  | _, _, .int i => .int i
  | _, _, .str x => .str x
  | _, _, .lst h a => .lst (k.lstN n h) (dpAll_kpN k n a)
  | _, _, .tup h a => .tup (k.tup h) (dpAll_kpN k n a)
theorem dpAll_kpN {K : PySem.W.Frag} {A : List Addr} {H H' : Hp} (k : Kp A H H') (n : ∀ l ∈ A, H l = none) : ∀ {ds : List PyData} {vs : List V}, DpAll K H vs ds → DpAll K H' vs ds
  | _, _, .nil => .nil
  | _, _, .cons h a => .cons (dp_kpN k n h) (dpAll_kpN k n a)
end
class Car (H H' : Hp) (P : Prop) (P' : outParam Prop) : Prop where
  kp : ∀ {A : List Addr}, Kp A H H' → (∀ l ∈ A, H l = none) → P → P'
theorem car {H H' : Hp} {P P' : Prop} [c : Car H H' P P'] (k : Kp [] H H') (h : P) : P' := c.kp k (fun _ m => nomatch m) h
theorem carN {H H' : Hp} {P P' : Prop} {L : Addr} [c : Car H H' P P'] (k : Kp [L] H H') (n : H L = none) (h : P) : P' := c.kp k (fun l m => by rw [List.mem_singleton.mp m]; exact n) h
section
variable {H H' : Hp}
instance {K : PySem.W.Frag} {p : Addr} {xs : List V} : Car H H' (SqT K H p xs) (SqT K H' p xs) := ⟨fun k _ h => k.tup h⟩
instance {K : PySem.W.Frag} {p : Addr} {xs : List V} : Car H H' (SqL K H p xs) (SqL K H' p xs) := ⟨fun k n h => k.lstN n h⟩
instance {p : Addr} {o : HO} : Car H H' (H p = some o) (H' p = some o) := ⟨fun k n h => k.atN n h⟩
instance {K : PySem.W.Frag} {v : V} {d : PyData} : Car H H' (Dp K H v d) (Dp K H' v d) := ⟨fun k n h => dp_kpN k n h⟩
instance {K : PySem.W.Frag} {v : List V} {d : List PyData} : Car H H' (DpAll K H v d) (DpAll K H' v d) := ⟨fun k n h => dpAll_kpN k n h⟩
/-- a frame that is not searched -/
def Fr (A : List Addr) (H H' : Hp) : Prop := Kp A H H'
theorem Fr.k {A : List Addr} {H H' : Hp} (h : Fr A H H') : Kp A H H' := h
instance {A : List Addr} {H0 : Hp} : Car H H' (Fr A H0 H) (Fr A H0 H') := ⟨fun k n h => (h.k.tr k fun l m => .inr (h.k.n _ (n l m)) : Kp A H0 H')⟩
instance {A : List Addr} {H0 : Hp} : Car H H' (Kp A H0 H ∧ True) (Kp A H0 H' ∧ True) := ⟨fun k n h => ⟨h.1.tr k fun l m => .inr (h.1.n _ (n l m)), trivial⟩⟩
end

end Z
/-! ## the walk: "m" a name is there, "a" its value, "u" its store, "kp" what still stands, "s" one step, "w" many -/

set_option hygiene false
local macro_rules | `(tactic| wtm_at "m") => `(tactic| first | with_reducible exact Z.Mem.z | (with_reducible refine Z.Mem.s ?_; wtm_at "m") | fail)
local macro_rules | `(tactic| wtm_at "a") => `(tactic| first | with_reducible exact Z.At.z | ((with_reducible show Z.At (_ :: _) _ _ _); with_reducible exact Z.At.s (by wtm_at "a")) | fail)
local macro_rules | `(tactic| wtm_at "u") => `(tactic| first | with_reducible exact Z.Put.z | ((with_reducible show Z.Put (_ :: _) _ _ _ _); with_reducible exact Z.Put.s (by wtm_at "u")) | fail)
local macro_rules | `(tactic| wtm_at "kq") => `(tactic| first | with_reducible assumption | ((with_reducible show SqT _ _ _ _); with_reducible exact Z.Kp.tup (by assumption) (by wtm_at "kq")) | ((with_reducible show SqL _ _ _ _); with_reducible exact Z.Kp.lst0 (by assumption) (by wtm_at "kq")) | ((with_reducible show SqT _ _ _ _); with_reducible exact Z.Kp.tup (Z.Fr.k hid) (by assumption)) | with_reducible exact Z.SqL.of' W.hw | with_reducible exact Z.SqL.of' W.h1 | with_reducible exact W.hm | ((with_reducible show _ = some _); with_reducible exact Z.Kp.at0 (by assumption) (by wtm_at "kq")) | ((with_reducible show SqL _ _ _ _); with_reducible exact Z.SqL.of' (by wtm_at "kq")) | ((with_reducible show SqT _ _ _ _); with_reducible exact Z.SqT.of' (by wtm_at "kq")) | fail)
local macro_rules | `(tactic| wtm_at "kp") => `(tactic| first | with_reducible assumption | ((with_reducible show SqT _ _ _ _); with_reducible exact Z.Kp.tup (by assumption) (by wtm_at "kp")) | ((with_reducible show SqL _ _ _ _); with_reducible exact Z.Kp.lst0 (by assumption) (by wtm_at "kp")) | ((with_reducible show SqT _ _ _ _); with_reducible exact Z.Kp.tup (Z.Fr.k hid) (by assumption)) | with_reducible exact Z.SqL.of' W.hw | with_reducible exact Z.SqL.of' W.h1 | with_reducible exact W.hm | ((with_reducible show _ = some _); with_reducible exact Z.Kp.at0 (by assumption) (by wtm_at "kp")) | ((with_reducible show SqL _ _ _ _); with_reducible exact Z.SqL.of' (by wtm_at "kp")) | ((with_reducible show SqT _ _ _ _); with_reducible exact Z.SqT.of' (by wtm_at "kp")) | assumption | fail)
/-! a statement or an expression, by its form; a value, by its form; facts that are there -/
local macro_rules | `(tactic| wtm_at "v") => `(tactic| first | ((with_reducible show Z.VX _ (L2.V.ref _) (L2.V.int 0) _ _); with_reducible refine Z.vx_t0 (by wtm_at "kq") ?_) | ((with_reducible show Z.VX _ (L2.V.ref _) (L2.V.int 1) _ _); with_reducible refine Z.vx_t1 (by wtm_at "kq") ?_) | ((with_reducible show Z.VX _ (L2.V.ref _) (L2.V.int 2) _ _); with_reducible refine Z.vx_t2 (by wtm_at "kq") ?_) | ((with_reducible show Z.VX _ (L2.V.ref _) (L2.V.int 3) _ _); with_reducible refine Z.vx_t3 (by wtm_at "kq") ?_) | ((with_reducible show Z.VX _ (L2.V.ref _) (L2.V.int 4) _ _); with_reducible refine Z.vx_t4 (by wtm_at "kq") ?_) | ((with_reducible show Z.VX _ (L2.V.ref _) (L2.V.int 5) _ _); with_reducible refine Z.vx_t5 (by wtm_at "kq") ?_) | ((with_reducible show Z.VX _ (L2.V.ref _) (L2.V.int 0) _ _); with_reducible refine Z.vx_l0 (by wtm_at "kq") ?_) | ((with_reducible show Z.VX _ (L2.V.ref _) (L2.V.int 1) _ _); with_reducible refine Z.vx_l1 (by wtm_at "kq") ?_) | ((with_reducible show Z.VX _ (L2.V.ref _) (L2.V.int 2) _ _); with_reducible refine Z.vx_l2 (by wtm_at "kq") ?_) | ((with_reducible show Z.VX _ (L2.V.ref _) (L2.V.int 3) _ _); with_reducible refine Z.vx_l3 (by wtm_at "kq") ?_) | ((with_reducible show Z.VC _ (PySem.Value.builtin "len") [L2.V.ref _] _ _); with_reducible refine Z.vc_lenL (by wtm_at "kq") ?_) | ((with_reducible show Z.VC _ (PySem.Value.builtin "len") [L2.V.ref _] _ _); with_reducible refine Z.vc_lenT (by wtm_at "kq") ?_) | ((with_reducible show Z.VT _ (L2.V.ref _) _ _); with_reducible refine Z.vt_tup (by wtm_at "kq") ?_) | ((with_reducible show Z.VT _ (L2.V.ref _) _ _); with_reducible refine Z.vt_lst (by wtm_at "kq") ?_) | ((with_reducible show Z.VO _ (PySem.binaryOp PySem.Operator.FloorDiv) _ _ _ _); refine Z.vo_fdiv (by exact ⟨by decide, by decide⟩) ?_) | ((with_reducible show Z.VO _ (PySem.binaryOp PySem.Operator.Mod) _ _ _ _); refine Z.vo_mod (by decide) ?_) | ((with_reducible show _ ∧ _); refine ⟨by exact Z.sz_ (by first | decide | (simp; done) | (simp; omega)), ?_⟩) | fail)
local macro_rules | `(tactic| wtm_at "d") => `(tactic| fail)
local macro_rules | `(tactic| wtm_at "s") => `(tactic| first | ((with_reducible show Z.XE _ _ _ _ _); first | ((with_reducible show Z.XE _ (PySem.Expr.Name _ _) _ _ _); first | ((with_reducible show Z.XE _ (PySem.Expr.Name _ _) _ _ _); refine Z.xe_var (by assumption) (by wtm_at "m") (by wtm_at "a") ?_) | wtm_at "d" | fail) | ((with_reducible show Z.XE _ (PySem.Expr.Constant _ _ _) _ _ _); first | with_reducible refine Z.xe_int ?_ | with_reducible refine Z.xe_bl ?_ | with_reducible refine Z.xe_non ?_ | wtm_at "d" | fail) | ((with_reducible show Z.XE _ (PySem.Expr.Call _ _ _ _) _ _ _); first | ((with_reducible show Z.XE _ (PySem.Expr.Call (PySem.Expr.Attribute _ "append" _) [_] [] _) _ _ _); refine Z.xe_append ?_) | wtm_at "d" | fail) | ((with_reducible show Z.XE _ (PySem.Expr.Subscript _ _ _) _ _ _); first | ((with_reducible show Z.XE _ (PySem.Expr.Subscript _ (PySem.Expr.Slice none none (some _) _) _) _ _ _); refine Z.xe_revL ?_) | ((with_reducible show Z.XE _ (PySem.Expr.Subscript _ (PySem.Expr.Slice _ _ none _) _) _ _ _); refine Z.xe_sl ?_) | ((with_reducible show Z.XE _ (PySem.Expr.Subscript _ _ _) _ _ _); refine Z.xe_ix ?_) | fail) | with_reducible refine Z.xe_bin ?_ | ((with_reducible show Z.XE _ (PySem.Expr.Compare _ [_] [_] _) _ _ _); refine Z.xe_cmp ?_) | with_reducible refine Z.xe_not ?_ | with_reducible refine Z.xe_un ?_ | with_reducible refine Z.xe_and ?_ | with_reducible refine Z.xe_or ?_ | with_reducible refine Z.xe_one ?_ | with_reducible refine Z.xe_tup ?_ | with_reducible refine Z.xe_lst ?_ | with_reducible refine Z.xe_ifExp ?_ | ((with_reducible show Z.XE _ (PySem.Expr.Compare _ [_, _] [_, _] _) _ _ _); refine Z.xe_chain ?_) | fail) | ((with_reducible show Z.VO _ _ _ _ _ _); first | with_reducible refine Z.vo_add ?_ | with_reducible refine Z.vo_sub ?_ | with_reducible refine Z.vo_lt ?_ | with_reducible refine Z.vo_le ?_ | with_reducible refine Z.vo_gt ?_ | with_reducible refine Z.vo_ge ?_ | with_reducible refine Z.vo_eq ?_ | with_reducible refine Z.vo_ne ?_ | with_reducible refine Z.vo_eqB ?_ | with_reducible refine Z.vo_neB ?_ | with_reducible refine Z.vo_isB ?_ | with_reducible refine Z.vo_isN ?_ | with_reducible refine Z.vo_notN ?_ | with_reducible refine Z.vo_notB ?_ | wtm_at "v" | fail) | ((with_reducible show Z.XS _ _ _ _ _ _); first | ((with_reducible show Z.XS _ (PySem.Stmt.Assign [PySem.Expr.Name _ _] _ _) _ _ _ _); (fail_if_success (with_reducible show Z.XS _ (PySem.Stmt.Assign [_] (PySem.Expr.ListComp _ _ _ _) _) _ _ _ _)); refine Z.xs_set (by assumption) ?_ (hx := by wtm_at "m") (hl := by wtm_at "m")) | with_reducible refine Z.xs_ret ?_ | ((with_reducible show Z.XS _ (PySem.Stmt.Expr _ _) _ _ _ _); refine Z.xs_expr ?_) | with_reducible refine Z.xs_if ?_ | with_reducible refine Z.xs_pass ?_ | with_reducible refine Z.xs_break ?_ | with_reducible refine Z.xs_cont ?_ | with_reducible refine Z.xs_retN ?_ | ((with_reducible show Z.XS _ (PySem.Stmt.AugAssign (PySem.Expr.Name _ _) _ _ _) _ _ _ _); refine Z.xs_aug (by assumption) (by wtm_at "a") (by wtm_at "m") ?_) | ((with_reducible show Z.XS _ (PySem.Stmt.Assign [PySem.Expr.Tuple _ _ _] (PySem.Expr.Call _ _ _ _) _) _ _ _ _); refine Z.xs_asg ?_) | ((with_reducible show Z.XS _ (PySem.Stmt.Assign [PySem.Expr.Tuple _ _ _] (PySem.Expr.IfExp _ _ _ _) _) _ _ _ _); refine Z.xs_asg ?_) | ((with_reducible show Z.XS _ (PySem.Stmt.Assign [PySem.Expr.Tuple _ _ _] (PySem.Expr.Name _ _) _) _ _ _ _); refine Z.xs_asg ?_) | fail) | ((with_reducible show Z.XB _ _ _ _ _ _); first | with_reducible refine Z.xb_cons ?_ | with_reducible refine Z.xb_nil ?_ | fail) | ((with_reducible show Z.XT _ _ _ _ _); first | ((with_reducible show Z.XT _ (PySem.Expr.Compare _ [_] [_] _) _ _ _); refine Z.xt_cmp ?_) | with_reducible refine Z.xt_bool ?_ | with_reducible refine Z.xt_not ?_ | ((with_reducible show Z.XT _ (PySem.Expr.Compare _ [_, _] [_, _] _) _ _ _); refine Z.xt_chain ?_) | ((with_reducible show Z.XT _ (PySem.Expr.Call _ _ _ _) _ _ _); refine Z.xt_val ?_) | ((with_reducible show Z.XT _ (PySem.Expr.Name _ _) _ _ _); refine Z.xt_val ?_) | ((with_reducible show Z.XT _ (PySem.Expr.Subscript _ _ _) _ _ _); refine Z.xt_val ?_) | ((with_reducible show Z.XT _ (PySem.Expr.Attribute _ _ _) _ _ _); refine Z.xt_val ?_) | ((with_reducible show Z.XT _ (PySem.Expr.Constant _ _ _) _ _ _); refine Z.xt_val ?_) | fail) | ((with_reducible show Z.VX _ _ _ _ _); first | wtm_at "v" | fail) | ((with_reducible show Z.VC _ _ _ _ _); first | with_reducible refine Z.vc_intB ?_ | with_reducible refine Z.vc_int ?_ | with_reducible refine Z.vc_abs ?_ | wtm_at "v" | fail) | ((with_reducible show Z.XA _ _ _ _ _); first | ((with_reducible show Z.XA _ (PySem.Expr.Starred _ _ :: _) _ _ _); refine Z.xa_star ?_) | ((with_reducible show Z.XA _ (_ :: _) _ _ _); refine Z.xa_cons ?_) | with_reducible refine Z.xa_nil ?_ | fail) | ((with_reducible show Z.VT _ _ _ _); first | with_reducible refine Z.vt_bl ?_ | with_reducible refine Z.vt_int ?_ | wtm_at "v" | fail) | ((with_reducible show Z.XW _ _ _ _ _); first | with_reducible refine Z.xw_and ?_ | with_reducible refine Z.xw_and1 ?_ | with_reducible refine Z.xw_or ?_ | with_reducible refine Z.xw_or1 ?_ | fail) | ((with_reducible show Z.XO _ _ _ _ _); first | with_reducible refine Z.xo_none ?_ | with_reducible refine Z.xo_some ?_ | fail) | ((with_reducible show Z.XG _ _ _ _ _ _); first | ((with_reducible show Z.XG _ (PySem.Expr.Name _ _) _ _ _ _); refine Z.xg_name (by assumption) (by wtm_at "m") (by wtm_at "m") ?_) | fail) | ((with_reducible show Z.XGs _ _ _ _ _ _); first | ((with_reducible show Z.XGs _ (_ :: _) _ _ _ _); refine Z.xgs_cons ?_) | with_reducible refine Z.xgs_nil ?_ | fail) | ((with_reducible show Z.VU _ _ _ _ _); first | with_reducible refine Z.vu_neg ?_ | fail) | ((with_reducible show Z.VIp _ _ _ _ _ _); first | with_reducible refine Z.vip_add ?_ | with_reducible refine Z.vip_sub ?_ | fail) | with_reducible refine Z.ex_bl ?_ | ((with_reducible show ∃ i, L2.V.int _ = L2.V.int i ∧ _); refine ⟨_, rfl, ?_⟩) | with_reducible refine L2.iteT ?_ | with_reducible refine L2.iteF ?_ | with_reducible refine Z.ite_NT ?_ | with_reducible refine Z.ite_NF ?_ | ((with_reducible show ∃ l xs, L2.V.ref _ = L2.V.ref l ∧ _ ∧ Z.XE _ _ _ _ _); refine ⟨_, _, rfl, by wtm_at "kp", ?_⟩) | ((with_reducible show ∃ _, Z.Put _ _ _ _ _ ∧ _); refine ⟨_, by wtm_at "u", ?_⟩) | ((with_reducible show _ ∧ _); wtm_at "v") | fail)
local macro_rules | `(tactic| wtm_at "w") => `(tactic| repeat wtm_at "s")
local macro_rules | `(tactic| wtm_at "ws") => `(tactic| repeat (first | wtm_at "s" | with_reducible refine Z.xe_str ?_ | with_reducible refine Law.vo_eqS ?_ | with_reducible refine Law.vo_neS ?_ | fail))


namespace Law
open PySem
open L2 hiding XE
open Z
def topS (i : Nat) : Stmt := PySem.Challenge.pw_sealround_k30_paths.main.body.getD i (.Pass ⟨0, 0, 0, 0⟩)
abbrev s_digest : Stmt := topS 7
theorem sc_digest : FnScope ["mixing", "row", "state", "number"] ["mixing", "row"] (defScope s_digest) := ⟨rfl, rfl, rfl, by decide +kernel, rfl, by decide +kernel, by decide +kernel⟩
theorem oc_digest : okC (defScope s_digest) ["mixing", "row", "state", "number"] ["mixing", "row", "state", "number"] ["_mixed", "len"] = true := by decide +kernel
abbrev s__mixed : Stmt := topS 8
theorem sc__mixed : FnScope ["mixing", "state", "number"] ["mixing", "state", "number"] (defScope s__mixed) := ⟨rfl, rfl, rfl, by decide +kernel, rfl, by decide +kernel, by decide +kernel⟩
theorem oc__mixed : okC (defScope s__mixed) ["mixing", "state", "number"] ["mixing", "state", "number"] ["PRIME"] = true := by decide +kernel
abbrev s_digest_of : Stmt := topS 10
theorem sc_digest_of : FnScope ["mixing", "row"] ["mixing", "row"] (defScope s_digest_of) := ⟨rfl, rfl, rfl, by decide +kernel, rfl, by decide +kernel, by decide +kernel⟩
theorem oc_digest_of : okC (defScope s_digest_of) ["mixing", "row"] ["mixing", "row"] ["digest"] = true := by decide +kernel
abbrev s_is_thing : Stmt := topS 16
theorem sc_is_thing : FnScope ["row", "kind"] ["row"] (defScope s_is_thing) := ⟨rfl, rfl, rfl, by decide +kernel, rfl, by decide +kernel, by decide +kernel⟩
theorem oc_is_thing : okC (defScope s_is_thing) ["row", "kind"] ["row", "kind"] ["BEACON", "len", "DOCUMENT", "_is_document", "HEAD", "_is_head", "RENEWAL"] = true := by decide +kernel
abbrev s__is_document : Stmt := topS 17
theorem sc__is_document : FnScope ["row"] ["row"] (defScope s__is_document) := ⟨rfl, rfl, rfl, by decide +kernel, rfl, by decide +kernel, by decide +kernel⟩
theorem oc__is_document : okC (defScope s__is_document) ["row"] ["row"] ["len"] = true := by decide +kernel
abbrev s__is_head : Stmt := topS 18
theorem sc__is_head : FnScope ["row", "number", "count"] ["row"] (defScope s__is_head) := ⟨rfl, rfl, rfl, by decide +kernel, rfl, by decide +kernel, by decide +kernel⟩
theorem oc__is_head : okC (defScope s__is_head) ["row", "number", "count"] ["row", "number", "count"] ["len", "_back_count"] = true := by decide +kernel
abbrev s_kind_of : Stmt := topS 19
theorem sc_kind_of : FnScope ["row"] ["row"] (defScope s_kind_of) := ⟨rfl, rfl, rfl, by decide +kernel, rfl, by decide +kernel, by decide +kernel⟩
theorem oc_kind_of : okC (defScope s_kind_of) ["row"] ["row"] [] = true := by decide +kernel
abbrev s__back_count : Stmt := topS 20
theorem sc__back_count : FnScope ["number"] ["number"] (defScope s__back_count) := ⟨rfl, rfl, rfl, by decide +kernel, rfl, by decide +kernel, by decide +kernel⟩
theorem oc__back_count : okC (defScope s__back_count) ["number"] ["number"] ["_greatest_step"] = true := by decide +kernel
abbrev s__greatest_step : Stmt := topS 21
theorem sc__greatest_step : FnScope ["number"] ["number"] (defScope s__greatest_step) := ⟨rfl, rfl, rfl, by decide +kernel, rfl, by decide +kernel, by decide +kernel⟩
theorem oc__greatest_step : okC (defScope s__greatest_step) ["number"] ["number"] [] = true := by decide +kernel
abbrev s__first_count : Stmt := topS 24
theorem sc__first_count : FnScope ["count"] ["count"] (defScope s__first_count) := ⟨rfl, rfl, rfl, by decide +kernel, rfl, by decide +kernel, by decide +kernel⟩
theorem oc__first_count : okC (defScope s__first_count) ["count"] ["count"] [] = true := by decide +kernel
abbrev s_root_of : Stmt := topS 25
theorem sc_root_of : FnScope ["mixing", "entries", "root", "_"] ["mixing", "entries"] (defScope s_root_of) := ⟨rfl, rfl, rfl, by decide +kernel, rfl, by decide +kernel, by decide +kernel⟩
theorem oc_root_of : okC (defScope s_root_of) ["mixing", "entries", "root", "_"] ["mixing", "entries", "root", "_"] ["_root_and_nodes"] = true := by decide +kernel
abbrev s__root_and_nodes : Stmt := topS 26
theorem sc__root_and_nodes : FnScope ["mixing", "entries", "middle", "left", "left_nodes", "right", "right_nodes", "node"] ["mixing", "entries"] (defScope s__root_and_nodes) := ⟨rfl, rfl, rfl, by decide +kernel, rfl, by decide +kernel, by decide +kernel⟩
theorem oc__root_and_nodes : okC (defScope s__root_and_nodes) ["mixing", "entries", "middle", "left", "left_nodes", "right", "right_nodes", "node"] ["mixing", "entries", "middle", "left", "left_nodes", "right", "right_nodes", "node"] ["len", "_first_count", "_root_and_nodes", "NODE", "digest"] = true := by decide +kernel
abbrev s_way_of : Stmt := topS 27
theorem sc_way_of : FnScope ["mixing", "entries", "index", "way", "part", "in_second", "middle", "first", "second", "beside"] ["mixing", "entries", "index"] (defScope s_way_of) := ⟨rfl, rfl, rfl, by decide +kernel, rfl, by decide +kernel, by decide +kernel⟩
theorem oc_way_of : okC (defScope s_way_of) ["mixing", "entries", "index", "way", "part", "in_second", "middle", "first", "second", "beside"] ["mixing", "entries", "index", "way", "part", "in_second", "middle", "first", "second", "beside"] ["turns", "len", "_first_count", "root_of", "tuple"] = true := by decide +kernel
abbrev s_turns : Stmt := topS 28
theorem sc_turns : FnScope ["count", "index", "found", "size", "at", "middle", "in_second"] ["count", "index"] (defScope s_turns) := ⟨rfl, rfl, rfl, by decide +kernel, rfl, by decide +kernel, by decide +kernel⟩
theorem oc_turns : okC (defScope s_turns) ["count", "index", "found", "size", "at", "middle", "in_second"] ["count", "index", "found", "size", "at", "middle", "in_second"] ["_first_count"] = true := by decide +kernel
abbrev s_clash_of_entries : Stmt := topS 29
theorem sc_clash_of_entries : FnScope ["mixing", "one", "two", "_", "one_nodes", "two_nodes"] ["mixing", "one", "two"] (defScope s_clash_of_entries) := ⟨rfl, rfl, rfl, by decide +kernel, rfl, by decide +kernel, by decide +kernel⟩
theorem oc_clash_of_entries : okC (defScope s_clash_of_entries) ["mixing", "one", "two", "_", "one_nodes", "two_nodes"] ["mixing", "one", "two", "_", "one_nodes", "two_nodes"] ["_root_and_nodes", "_first_difference"] = true := by decide +kernel
abbrev s__first_difference : Stmt := topS 30
theorem sc__first_difference : FnScope ["one_nodes", "two_nodes", "one", "two"] ["one_nodes", "two_nodes"] (defScope s__first_difference) := ⟨rfl, rfl, rfl, by decide +kernel, rfl, by decide +kernel, by decide +kernel⟩
theorem oc__first_difference : okC (defScope s__first_difference) ["one_nodes", "two_nodes", "one", "two"] ["one_nodes", "two_nodes", "one", "two"] ["zip"] = true := by decide +kernel
abbrev s_listed : Stmt := topS 35
theorem sc_listed : FnScope ["row", "word", "kind"] ["row", "word"] (defScope s_listed) := ⟨rfl, rfl, rfl, by decide +kernel, rfl, by decide +kernel, by decide +kernel⟩
theorem oc_listed : okC (defScope s_listed) ["row", "word", "kind"] ["row", "word", "kind"] ["kind_of", "CITE", "DOCUMENT", "BACK", "HEAD"] = true := by decide +kernel
abbrev s_is_right_round : Stmt := topS 36
theorem sc_is_right_round : FnScope ["before", "row", "place", "word", "index", "service", "number", "hour", "before_service", "before_number", "before_hour", "wanted"] ["before", "row", "place"] (defScope s_is_right_round) := ⟨rfl, rfl, rfl, by decide +kernel, rfl, by decide +kernel, by decide +kernel⟩
theorem oc_is_right_round : okC (defScope s_is_right_round) ["before", "row", "place", "word", "index", "service", "number", "hour", "before_service", "before_number", "before_hour", "wanted"] ["before", "row", "place", "word", "index", "service", "number", "hour", "before_service", "before_number", "before_hour", "wanted"] ["BACK", "kind_of", "HEAD"] = true := by decide +kernel
abbrev s__are_entries : Stmt := topS 41
theorem sc__are_entries : FnScope ["mixing", "row", "entries", "count", "root"] ["mixing", "row", "entries"] (defScope s__are_entries) := ⟨rfl, rfl, rfl, by decide +kernel, rfl, by decide +kernel, by decide +kernel⟩
theorem oc__are_entries : okC (defScope s__are_entries) ["mixing", "row", "entries", "count", "root"] ["mixing", "row", "entries", "count", "root"] ["kind_of", "HEAD", "len", "root_of"] = true := by decide +kernel
abbrev s__law_cell : Stmt := topS 43
theorem sc__law_cell : FnScope ["script", "k"] ["script", "k"] (defScope s__law_cell) := ⟨rfl, rfl, rfl, by decide +kernel, rfl, by decide +kernel, by decide +kernel⟩
theorem oc__law_cell : okC (defScope s__law_cell) ["script", "k"] ["script", "k"] ["len"] = true := by decide +kernel
abbrev s__law_row : Stmt := topS 44
theorem sc__law_row : FnScope ["script", "first", "last", "row", "k", "cell", "turn"] ["script", "first", "last"] (defScope s__law_row) := ⟨rfl, rfl, rfl, by decide +kernel, rfl, by decide +kernel, by decide +kernel⟩
theorem oc__law_row : okC (defScope s__law_row) ["script", "first", "last", "row", "k", "cell", "turn"] ["script", "first", "last", "row", "k", "cell", "turn"] ["range", "_law_cell", "abs", "int"] = true := by decide +kernel
abbrev s__law_draw : Stmt := topS 45
theorem sc__law_draw : FnScope ["box", "many", "at"] ["box", "many"] (defScope s__law_draw) := ⟨rfl, rfl, rfl, by decide +kernel, rfl, by decide +kernel, by decide +kernel⟩
theorem oc__law_draw : okC (defScope s__law_draw) ["box", "many", "at"] ["box", "many", "at"] ["len", "int"] = true := by decide +kernel
abbrev s__law_is_integer : Stmt := topS 46
theorem sc__law_is_integer : FnScope ["told"] ["told"] (defScope s__law_is_integer) := ⟨rfl, rfl, rfl, by decide +kernel, rfl, by decide +kernel, by decide +kernel⟩
theorem oc__law_is_integer : okC (defScope s__law_is_integer) ["told"] ["told"] ["isinstance", "int", "bool"] = true := by decide +kernel
abbrev s__law_same : Stmt := topS 47
theorem sc__law_same : FnScope ["told", "due", "k"] ["told", "due"] (defScope s__law_same) := ⟨rfl, rfl, rfl, by decide +kernel, rfl, by decide +kernel, by decide +kernel⟩
theorem oc__law_same : okC (defScope s__law_same) ["told", "due", "k"] ["told", "due", "k"] ["isinstance", "bool", "int", "_law_is_integer", "str", "tuple", "list", "len", "range", "_law_same"] = true := by decide +kernel
abbrev s__law_mix : Stmt := topS 48
theorem sc__law_mix : FnScope ["box", "bound"] ["box"] (defScope s__law_mix) := ⟨rfl, rfl, rfl, by decide +kernel, rfl, by decide +kernel, by decide +kernel⟩
theorem oc__law_mix : okC (defScope s__law_mix) ["box", "bound"] ["box", "bound"] ["_law_draw"] = true := by decide +kernel
abbrev s__law_digest : Stmt := topS 49
theorem sc__law_digest : FnScope ["mix", "row", "prime", "state", "number"] ["mix", "row"] (defScope s__law_digest) := ⟨rfl, rfl, rfl, by decide +kernel, rfl, by decide +kernel, by decide +kernel⟩
theorem oc__law_digest : okC (defScope s__law_digest) ["mix", "row", "prime", "state", "number"] ["mix", "row", "prime", "state", "number"] ["int", "len"] = true := by decide +kernel
abbrev s__law_half : Stmt := topS 50
theorem sc__law_half : FnScope ["count", "k", "turn"] ["count"] (defScope s__law_half) := ⟨rfl, rfl, rfl, by decide +kernel, rfl, by decide +kernel, by decide +kernel⟩
theorem oc__law_half : okC (defScope s__law_half) ["count", "k", "turn"] ["count", "k", "turn"] ["range"] = true := by decide +kernel
abbrev s__law_root : Stmt := topS 51
theorem sc__law_root : FnScope ["mix", "entries", "k"] ["mix", "entries"] (defScope s__law_root) := ⟨rfl, rfl, rfl, by decide +kernel, rfl, by decide +kernel, by decide +kernel⟩
theorem oc__law_root : okC (defScope s__law_root) ["mix", "entries", "k"] ["mix", "entries", "k"] ["len", "_law_half", "_law_digest", "_law_root"] = true := by decide +kernel
abbrev s__law_way : Stmt := topS 52
theorem sc__law_way : FnScope ["mix", "entries", "index", "way", "rest", "turn", "k"] ["mix", "entries", "index"] (defScope s__law_way) := ⟨rfl, rfl, rfl, by decide +kernel, rfl, by decide +kernel, by decide +kernel⟩
theorem oc__law_way : okC (defScope s__law_way) ["mix", "entries", "index", "way", "rest", "turn", "k"] ["mix", "entries", "index", "way", "rest", "turn", "k"] ["list", "range", "len", "_law_half", "_law_root", "tuple"] = true := by decide +kernel
abbrev s__law_backs : Stmt := topS 53
theorem sc__law_backs : FnScope ["number", "out", "step", "turn"] ["number"] (defScope s__law_backs) := ⟨rfl, rfl, rfl, by decide +kernel, rfl, by decide +kernel, by decide +kernel⟩
theorem oc__law_backs : okC (defScope s__law_backs) ["number", "out", "step", "turn"] ["number", "out", "step", "turn"] ["range", "int"] = true := by decide +kernel
abbrev s__law_pool : Stmt := topS 54
theorem sc__law_pool : FnScope ["box", "mix", "things", "numbers", "thing"] ["box", "mix", "things"] (defScope s__law_pool) := ⟨rfl, rfl, rfl, by decide +kernel, rfl, by decide +kernel, by decide +kernel⟩
theorem oc__law_pool : okC (defScope s__law_pool) ["box", "mix", "things", "numbers", "thing"] ["box", "mix", "things", "numbers", "thing"] ["int", "_law_draw", "_law_digest"] = true := by decide +kernel
abbrev s__law_pick : Stmt := topS 55
theorem sc__law_pick : FnScope ["box", "numbers"] ["box", "numbers"] (defScope s__law_pick) := ⟨rfl, rfl, rfl, by decide +kernel, rfl, by decide +kernel, by decide +kernel⟩
theorem oc__law_pick : okC (defScope s__law_pick) ["box", "numbers"] ["box", "numbers"] ["_law_draw", "len"] = true := by decide +kernel
abbrev s__law_head : Stmt := topS 56
theorem sc__law_head : FnScope ["box", "mix", "things", "numbers", "service", "mine", "number", "entries", "backs", "earlier", "row", "found", "hour", "thing", "k"] ["box", "mix", "things", "numbers"] (defScope s__law_head) := ⟨rfl, rfl, rfl, by decide +kernel, rfl, by decide +kernel, by decide +kernel⟩
theorem oc__law_head : okC (defScope s__law_head) ["box", "mix", "things", "numbers", "service", "mine", "number", "entries", "backs", "earlier", "row", "found", "hour"] ["box", "mix", "things", "numbers", "service", "mine", "number", "entries", "backs", "earlier", "row", "found", "hour"] ["_law_draw", "len", "range", "_law_backs", "_law_pick", "_law_root", "tuple"] = true := by decide +kernel
abbrev s__law_thing : Stmt := topS 57
theorem sc__law_thing : FnScope ["box", "mix", "things", "numbers", "kind", "cites", "body", "k"] ["box", "mix", "things"] (defScope s__law_thing) := ⟨rfl, rfl, rfl, by decide +kernel, rfl, by decide +kernel, by decide +kernel⟩
theorem oc__law_thing : okC (defScope s__law_thing) ["box", "mix", "things", "numbers", "kind", "cites", "body"] ["box", "mix", "things", "numbers", "kind", "cites", "body"] ["_law_pool", "_law_draw", "range", "len", "tuple", "_law_pick", "_law_head"] = true := by decide +kernel
abbrev s__law_things : Stmt := topS 58
theorem sc__law_things : FnScope ["box", "mix", "many", "things", "k"] ["box", "mix", "many"] (defScope s__law_things) := ⟨rfl, rfl, rfl, by decide +kernel, rfl, by decide +kernel, by decide +kernel⟩
theorem oc__law_things : okC (defScope s__law_things) ["box", "mix", "many", "things", "k"] ["box", "mix", "many", "things", "k"] ["range", "_law_thing"] = true := by decide +kernel
abbrev s__law_places : Stmt := topS 59
theorem sc__law_places : FnScope ["mix", "thing", "before", "row", "number", "out", "i", "rounds"] ["mix", "thing", "before"] (defScope s__law_places) := ⟨rfl, rfl, rfl, by decide +kernel, rfl, by decide +kernel, by decide +kernel⟩
theorem oc__law_places : okC (defScope s__law_places) ["mix", "thing", "before", "row", "number", "out", "i", "rounds"] ["mix", "thing", "before", "row", "number", "out", "i", "rounds"] ["_law_digest", "range", "_law_backs", "len", "_law_way"] = true := by decide +kernel
abbrev s__law_known : Stmt := topS 60
theorem sc__law_known : FnScope ["mix", "things", "kept", "seen", "thing", "number"] ["mix", "things"] (defScope s__law_known) := ⟨rfl, rfl, rfl, by decide +kernel, rfl, by decide +kernel, by decide +kernel⟩
theorem oc__law_known : okC (defScope s__law_known) ["mix", "things", "kept", "seen", "thing", "number"] ["mix", "things", "kept", "seen", "thing", "number"] ["_law_digest"] = true := by decide +kernel
abbrev s__law_filled : Stmt := topS 61
theorem sc__law_filled : FnScope ["mix", "known", "library", "thing"] ["mix", "known"] (defScope s__law_filled) := ⟨rfl, rfl, rfl, by decide +kernel, rfl, by decide +kernel, by decide +kernel⟩
theorem oc__law_filled : okC (defScope s__law_filled) ["mix", "known", "library", "thing"] ["mix", "known", "library", "thing"] ["Library", "Mixing", "list"] = true := by decide +kernel
abbrev s__law_edges : Stmt := topS 62
theorem sc__law_edges : FnScope ["mix", "known", "edges", "one", "found", "two"] ["mix", "known"] (defScope s__law_edges) := ⟨rfl, rfl, rfl, by decide +kernel, rfl, by decide +kernel, by decide +kernel⟩
theorem oc__law_edges : okC (defScope s__law_edges) ["mix", "known", "edges", "one", "found", "two"] ["mix", "known", "edges", "one", "found", "two"] ["len", "_law_places"] = true := by decide +kernel
abbrev s__law_steps_to : Stmt := topS 63
theorem sc__law_steps_to : FnScope ["edges", "end", "far", "turn", "row", "near", "other"] ["edges", "end"] (defScope s__law_steps_to) := ⟨rfl, rfl, rfl, by decide +kernel, rfl, by decide +kernel, by decide +kernel⟩
theorem oc__law_steps_to : okC (defScope s__law_steps_to) ["edges", "end", "far", "turn", "row", "near"] ["edges", "end", "far", "turn", "row", "near"] ["range", "len", "min"] = true := by decide +kernel
abbrev s__law_due_path : Stmt := topS 64
theorem sc__law_due_path : FnScope ["mix", "known", "edges", "start", "end", "far", "steps", "row", "turn", "able", "least", "thing", "other", "one"] ["mix", "known", "edges", "start", "end"] (defScope s__law_due_path) := ⟨rfl, rfl, rfl, by decide +kernel, rfl, by decide +kernel, by decide +kernel⟩
theorem oc__law_due_path : okC (defScope s__law_due_path) ["mix", "known", "edges", "start", "end", "far", "steps", "row", "turn", "able", "least", "thing"] ["mix", "known", "edges", "start", "end", "far", "steps", "row", "turn", "able", "least", "thing"] ["_law_steps_to", "range", "min", "_law_places"] = true := by decide +kernel
abbrev s_law : Stmt := topS 65
theorem sc_law : FnScope ["script", "box", "mix", "known", "library", "edges", "turn", "start", "end", "due", "again", "told"] ["script"] (defScope s_law) := ⟨rfl, rfl, rfl, by decide +kernel, rfl, by decide +kernel, by decide +kernel⟩
theorem oc_law : okC (defScope s_law) ["script", "box", "mix", "known", "library", "edges", "turn", "start", "end", "due", "again", "told"] ["script", "box", "mix", "known", "library", "edges", "turn", "start", "end", "due", "again", "told"] ["_law_row", "_law_mix", "_law_known", "_law_things", "_law_draw", "_law_filled", "_law_edges", "range", "len", "_law_due_path", "isinstance", "Paper", "_law_same"] = true := by decide +kernel
abbrev CxOf_law (X : Cx) (k : Nat) : Prop := Ctx X (defScope s_law) ["script", "box", "mix", "known", "library", "edges", "turn", "start", "end", "due", "again", "told"] ["script", "box", "mix", "known", "library", "edges", "turn", "start", "end", "due", "again", "told"] ["script", "box", "mix", "known", "library", "edges", "turn", "start", "end", "due", "again", "told"] ["_law_row", "_law_mix", "_law_known", "_law_things", "_law_draw", "_law_filled", "_law_edges", "range", "len", "_law_due_path", "isinstance", "Paper", "_law_same"] k
abbrev s_Mixing___init__ : Stmt := inClass (topS 6) 0
theorem sc_Mixing___init__ : FnScope ["self", "bound", "factor"] ["self", "bound", "factor"] (defScope s_Mixing___init__) := ⟨rfl, rfl, rfl, by decide +kernel, rfl, by decide +kernel, by decide +kernel⟩
theorem oc_Mixing___init__ : okC (defScope s_Mixing___init__) ["self", "bound", "factor"] ["self", "bound", "factor"] [] = true := by decide +kernel
abbrev s_Paper___init__ : Stmt := inClass (topS 38) 0
theorem sc_Paper___init__ : FnScope ["self", "first", "steps"] ["self", "first", "steps"] (defScope s_Paper___init__) := ⟨rfl, rfl, rfl, by decide +kernel, rfl, by decide +kernel, by decide +kernel⟩
theorem oc_Paper___init__ : okC (defScope s_Paper___init__) ["self", "first", "steps"] ["self", "first", "steps"] ["list"] = true := by decide +kernel
abbrev s_Library___init__ : Stmt := inClass (topS 40) 0
theorem sc_Library___init__ : FnScope ["self", "mixing"] ["self", "mixing"] (defScope s_Library___init__) := ⟨rfl, rfl, rfl, by decide +kernel, rfl, by decide +kernel, by decide +kernel⟩
theorem oc_Library___init__ : okC (defScope s_Library___init__) ["self", "mixing"] ["self", "mixing"] [] = true := by decide +kernel
abbrev s_Library_put : Stmt := inClass (topS 40) 1
theorem sc_Library_put : FnScope ["self", "row", "entries", "mark", "known"] ["self", "row", "entries"] (defScope s_Library_put) := ⟨rfl, rfl, rfl, by decide +kernel, rfl, by decide +kernel, by decide +kernel⟩
theorem oc_Library_put : okC (defScope s_Library_put) ["self", "row", "entries", "mark", "known"] ["self", "row", "entries", "mark", "known"] ["is_thing", "ThingError", "_are_entries", "digest_of", "kind_of", "HEAD", "list", "clash_of_entries"] = true := by decide +kernel
abbrev s_Library_path : Stmt := inClass (topS 40) 7
theorem sc_Library_path : FnScope ["self", "start", "end", "mark", "last", "following", "steps", "later"] ["self", "start", "end"] (defScope s_Library_path) := ⟨rfl, rfl, rfl, by decide +kernel, rfl, by decide +kernel, by decide +kernel⟩
theorem oc_Library_path : okC (defScope s_Library_path) ["self", "start", "end", "mark", "last", "following", "steps", "later"] ["self", "start", "end", "mark", "last", "following", "steps", "later"] ["digest_of", "Paper"] = true := by decide +kernel
abbrev s_Library__following : Stmt := inClass (topS 40) 8
theorem sc_Library__following : FnScope ["self", "start", "end", "following", "level", "found", "later", "mark", "_"] ["self", "start", "end"] (defScope s_Library__following) := ⟨rfl, rfl, rfl, by decide +kernel, rfl, by decide +kernel, by decide +kernel⟩
theorem oc_Library__following : okC (defScope s_Library__following) ["self", "start", "end", "following", "level", "found", "later", "mark", "_"] ["self", "start", "end", "following", "level", "found", "later", "mark", "_"] ["sorted", "list"] = true := by decide +kernel
abbrev s_Library__row_with : Stmt := inClass (topS 40) 9
theorem sc_Library__row_with : FnScope ["self", "mark"] ["self", "mark"] (defScope s_Library__row_with) := ⟨rfl, rfl, rfl, by decide +kernel, rfl, by decide +kernel, by decide +kernel⟩
theorem oc_Library__row_with : okC (defScope s_Library__row_with) ["self", "mark"] ["self", "mark"] [] = true := by decide +kernel
abbrev s_Library__first_place : Stmt := inClass (topS 40) 10
theorem sc_Library__first_place : FnScope ["self", "mark", "later", "held", "place"] ["self", "mark", "later"] (defScope s_Library__first_place) := ⟨rfl, rfl, rfl, by decide +kernel, rfl, by decide +kernel, by decide +kernel⟩
theorem oc_Library__first_place : okC (defScope s_Library__first_place) ["self", "mark", "later", "held", "place"] ["self", "mark", "later", "held", "place"] [] = true := by decide +kernel
abbrev s_Library__whole_place : Stmt := inClass (topS 40) 11
theorem sc_Library__whole_place : FnScope ["self", "mark", "place", "word", "index"] ["self", "mark", "place"] (defScope s_Library__whole_place) := ⟨rfl, rfl, rfl, by decide +kernel, rfl, by decide +kernel, by decide +kernel⟩
theorem oc_Library__whole_place : okC (defScope s_Library__whole_place) ["self", "mark", "place", "word", "index"] ["self", "mark", "place", "word", "index"] ["ENTRY", "way_of"] = true := by decide +kernel
abbrev s_Library__links_to : Stmt := inClass (topS 40) 12
theorem sc_Library__links_to : FnScope ["self", "mark", "row", "held", "place"] ["self", "mark"] (defScope s_Library__links_to) := ⟨rfl, rfl, rfl, by decide +kernel, rfl, by decide +kernel, by decide +kernel⟩
theorem oc_Library__links_to : okC (defScope s_Library__links_to) ["self", "mark", "row"] ["self", "mark", "row"] [] = true := by decide +kernel
abbrev s_Library__held_by : Stmt := inClass (topS 40) 13
theorem sc_Library__held_by : FnScope ["self", "mark", "row", "found", "entries", "index", "held"] ["self", "mark"] (defScope s_Library__held_by) := ⟨rfl, rfl, rfl, by decide +kernel, rfl, by decide +kernel, by decide +kernel⟩
theorem oc_Library__held_by : okC (defScope s_Library__held_by) ["self", "mark", "row", "found", "entries"] ["self", "mark", "row", "found", "entries"] ["enumerate", "listed", "CITE", "BACK"] = true := by decide +kernel
abbrev s_ThingError___init__ : Stmt := inClass (topS 3) 0
theorem sc_ThingError___init__ : FnScope ["self", "reason"] ["self", "reason"] (defScope s_ThingError___init__) := ⟨rfl, rfl, rfl, by decide +kernel, rfl, by decide +kernel, by decide +kernel⟩
theorem oc_ThingError___init__ : okC (defScope s_ThingError___init__) ["self", "reason"] ["self", "reason"] [] = true := by decide +kernel
/-! o.m(..) -/
structure MetOk (P : Program) (w : World) (K : PySem.W.Frag) (mg : Str → Option Value) (base : Heap) (Cl : Addr) (m : Str) (ps : List Str) (k : Nat) (sp : Sp) : Prop where
  ex : ∃ f fd, FnOk P w K mg base CX0 k f fd ps sp ∧ Meth K Cl m f ∧ Binds K fd ps []
section
variable {X : Cx} {σ : St} {H : Hp} {Q : VK} {N Vs Ls G : List Str} {k k' : Nat} {sc : Scope} {e o : Expr} {es : List Expr} {pos apos mpos p1 : Pos} {m : Str} {ps : List Str} {sp : Sp} {Cl : Addr}
theorem xe_meth {pl : Sem Bool} (C : Ctx X sc N Vs Ls G k) (F : MetOk X.prog X.w X.K X.mg X.base Cl m ps k' sp) (cl : Cls X.K Cl) (hk : k' ≤ k)
    (h : XE X o σ H fun x H1 => ∃ a dx fs, x = .ref a ∧ H1 a = some (.ins Cl dx fs) ∧ List.lookup m fs = none ∧ XA X (e :: es) σ H1 fun vs H2 => sp (x :: vs) H2 Q E0)
    (hpl : (backTo pos (starEach es X.env)).any (·.1) = false := by rfl)
    (hst : starEach (e :: es) X.env = (false, eval e X.env) :: starEach es X.env := by rfl)
    (hcall : eval (.Call (.Attribute o m apos) (e :: es) [] pos) X.env = (do
      let obj ← eval o X.env
      standAt apos.atName
      let (g, who) ← holding [obj] (getMethod obj m pl)
      callWith pos g who (backTo pos (starEach (e :: es) X.env)) (backToKw pos (keywordEach [] X.env))) := by rfl) : XE X (.Call (.Attribute o m apos) (e :: es) [] pos) σ H Q := by
  obtain ⟨f, fd, F, M, b⟩ := F.ex
  refine ⟨_, pe_meth XE.pe cl M F (C.room.mono hk) b .nil pass0 XA.pa hst hpl hcall, ?_⟩
  refine XE.mono h fun x H1 ⟨a, dx, fs, e1, e2, e3, q⟩ => ⟨a, dx, fs, e1, e2, e3, ?_⟩
  refine XA.mono q fun vs H2 q => ?_
  rw [List.append_nil]; exact q
theorem xe_meth0 {pl : Sem Bool} (C : Ctx X sc N Vs Ls G k) (F : MetOk X.prog X.w X.K X.mg X.base Cl m ps k' sp) (cl : Cls X.K Cl) (hk : k' ≤ k)
    (h : XE X o σ H fun x H1 => ∃ a dx fs, x = .ref a ∧ H1 a = some (.ins Cl dx fs) ∧ List.lookup m fs = none ∧ sp [x] H1 Q E0)
    (hcall : eval (.Call (.Attribute o m apos) [] [] pos) X.env = (do
      let obj ← eval o X.env
      standAt apos.atName
      let (g, who) ← holding [obj] (getMethod obj m pl)
      callWith pos g who (backTo pos (starEach [] X.env)) (backToKw pos (keywordEach [] X.env))) := by rfl) : XE X (.Call (.Attribute o m apos) [] [] pos) σ H Q := by
  obtain ⟨f, fd, F, M, b⟩ := F.ex
  refine ⟨_, pe_meth0 XE.pe cl M F (C.room.mono hk) b .nil pass0 hcall, ?_⟩
  refine XE.mono h fun x H1 ⟨a, dx, fs, e1, e2, e3, q⟩ => ⟨a, dx, fs, e1, e2, e3, ?_⟩
  exact q
theorem xe_dnewK (h : ∀ p H', Kp [] H H' → H p = none → H' p = some (.dK []) → Q (.ref p) H') : XE X (.Dict [] [] pos) σ H Q := ⟨_, pe_dnewK, new_ h⟩
end
/-! exceptions: raised, passed on, caught -/
/-- a def's own frame -/
structure Top (X : Cx) : Prop where
  hs : X.stack = X.env :: X.outer
  hf : X.env.frame = some X.env.locals
  hex : X.ex = []
/-- what an exception class of the module must have -/
structure ErrB (K : PySem.W.Frag) (C : Addr) : Prop where
  exC : PySem.W.subIn K (.ref C) (.type "BaseException") = some true
  hdC : PySem.W.hasDictIn K C = true
  tyC : PySem.W.typeIn K (.ref C) = some (.type "type")
structure ErrC (K : PySem.W.Frag) (C : Addr) : Prop where
  ox : OexC K C
  xf : XfC K C
  hcl : (PySem.W.clsIn K C).isSome = true
  ha : PySem.W.findIn K (.ref C) "__class__" = some (some (.builtin "object.__class__"))
  hn : PySem.W.specialIn K (.builtin "object.__class__") "__get__" = some (some (.builtin "getset_descriptor.__get__"))
  ht : PySem.W.takesIn K (.builtin "object.__class__") = some true
  hm : PySem.W.mroIn K C (.type "object") = some true
section
variable {P : Program} {w : World} {K : PySem.W.Frag} {mg : Str → Option Value} {base : Heap}
theorem fnOk_byX {x qual : Str} {st : Stmt} {f : Addr} {fd : FuncData} {N Vs ps G : List Str} {k : Nat} {sp : Sp} (F : Fun K x qual st f fd) (S : FnScope N ps (defScope st)) (ok : okC (defScope st) Vs Vs G = true) (len : ∀ vs H Q E, sp vs H Q E → vs.length = ps.length)
    (hbody : ∀ X : Cx, X.prog = P → X.w = w → X.K = K → X.mg = mg → X.base = base → Ctx X (defScope st) N Vs Vs G k → Top X → ∀ (H : Hp) (vs : List V) (Q : VK) (E : XK), Takes X (fun cls d _ H' => E cls d H') → sp vs H Q E → XB X (defBody st) (fun _ H' => Q .non H') ⟨Q, fun _ _ => False, fun _ _ => False⟩ (st0 N vs) H) :
    FnOk P w K mg base (L2.CX P w) (k + 1) f fd ps sp := by
  refine F.okX S len (fun cdv A outer s H vs Q E hr h => ?_)
  have hl : vs.length ≤ N.length := by
    rw [len vs H Q E h]
    have := S.pre
    rw [← this, List.length_take]; exact Nat.min_le_right _ _
  rw [start_eq N vs hl]
  obtain ⟨t, h1, q⟩ := hbody (cxOf (L2.CX P w) P w K mg base N qual (defScope st) f cdv A outer s H E) rfl rfl rfl rfl rfl ⟨rfl, S.nd, rfl, ok, rfl, fun _ _ => rfl, passes_of rfl, S.kind, hr⟩ ⟨rfl, rfl, rfl⟩ H vs Q E (takes_of rfl rfl rfl rfl) h
  exact ⟨t, h1, q⟩
theorem fnOk_byT {x qual : Str} {st : Stmt} {f : Addr} {fd : FuncData} {N Vs ps G : List Str} {k : Nat} {sp : Sp} (F : Fun K x qual st f fd) (S : FnScope N ps (defScope st)) (ok : okC (defScope st) Vs Vs G = true) (len : ∀ vs H Q E, sp vs H Q E → vs.length = ps.length)
    (hbody : ∀ X : Cx, X.prog = P → X.w = w → X.K = K → X.mg = mg → X.base = base → Ctx X (defScope st) N Vs Vs G k → Top X → ∀ (H : Hp) (vs : List V) (Q : VK) (E : XK), sp vs H Q E → XB X (defBody st) (fun _ H' => Q .non H') ⟨Q, fun _ _ => False, fun _ _ => False⟩ (st0 N vs) H) :
    FnOk P w K mg base CX0 (k + 1) f fd ps sp := by
  refine F.ok S len (fun cdv A outer s H vs Q E hr h => ?_)
  have hl : vs.length ≤ N.length := by
    rw [len vs H Q E h]
    have := S.pre
    rw [← this, List.length_take]; exact Nat.min_le_right _ _
  rw [start_eq N vs hl]
  obtain ⟨t, h1, q⟩ := hbody ((cxOf CX0 P w K mg base N qual (defScope st) f cdv A outer s H E).nox) rfl rfl rfl rfl rfl ⟨rfl, S.nd, rfl, ok, rfl, fun _ _ => rfl, PassesOwn.never, S.kind, hr⟩ ⟨rfl, rfl, rfl⟩ H vs Q E h
  exact ⟨t, h1, q⟩
theorem DefOk.byT {x qual : Str} {st : Stmt} {N Vs ps G : List Str} {k : Nat} {sp : Sp} (F : DefAt K mg x qual st ps) (S : FnScope N ps (defScope st)) (ok : okC (defScope st) Vs Vs G = true) (len : ∀ vs H Q E, sp vs H Q E → vs.length = ps.length)
    (hbody : ∀ X : Cx, X.prog = P → X.w = w → X.K = K → X.mg = mg → X.base = base → Ctx X (defScope st) N Vs Vs G k → Top X → ∀ (H : Hp) (vs : List V) (Q : VK) (E : XK), sp vs H Q E → XB X (defBody st) (fun _ H' => Q .non H') ⟨Q, fun _ _ => False, fun _ _ => False⟩ (st0 N vs) H) :
    DefOk P w K mg base x ps (k + 1) sp := by
  obtain ⟨f, fd, F, hm, hb⟩ := F.ex
  exact ⟨f, fd, fnOk_byT F S ok len hbody, hm, F.kp, hb⟩
/-- a def of the module that may raise -/
structure DefOkX (P : Program) (w : World) (K : PySem.W.Frag) (mg : Str → Option Value) (base : Heap) (x : Str) (ps : List Str) (k : Nat) (sp : Sp) : Prop where
  ex : ∃ f fd, FnOk P w K mg base (L2.CX P w) k f fd ps sp ∧ mg x = some (.ref f) ∧ PySem.W.keepIn K (.ref f) = true ∧ Binds K fd ps []
theorem DefOkX.by {x qual : Str} {st : Stmt} {N Vs ps G : List Str} {k : Nat} {sp : Sp} (F : DefAt K mg x qual st ps) (S : FnScope N ps (defScope st)) (ok : okC (defScope st) Vs Vs G = true) (len : ∀ vs H Q E, sp vs H Q E → vs.length = ps.length)
    (hbody : ∀ X : Cx, X.prog = P → X.w = w → X.K = K → X.mg = mg → X.base = base → Ctx X (defScope st) N Vs Vs G k → Top X → ∀ (H : Hp) (vs : List V) (Q : VK) (E : XK), Takes X (fun cls d _ H' => E cls d H') → sp vs H Q E → XB X (defBody st) (fun _ H' => Q .non H') ⟨Q, fun _ _ => False, fun _ _ => False⟩ (st0 N vs) H) :
    DefOkX P w K mg base x ps (k + 1) sp := by
  obtain ⟨f, fd, F, hm, hb⟩ := F.ex
  exact ⟨f, fd, fnOk_byX F S ok len hbody, hm, F.kp, hb⟩
/-- a method that may raise -/
structure MetOkX (P : Program) (w : World) (K : PySem.W.Frag) (mg : Str → Option Value) (base : Heap) (Cl : Addr) (m : Str) (ps : List Str) (k : Nat) (sp : Sp) : Prop where
  ex : ∃ f fd, FnOk P w K mg base (L2.CX P w) k f fd ps sp ∧ Meth K Cl m f ∧ Binds K fd ps []
/-- an exception class with its own __init__ -/
structure ErrOk (P : Program) (w : World) (K : PySem.W.Frag) (mg : Str → Option Value) (base : Heap) (x : Str) (C : Addr) (ps : List Str) (k : Nat) (sp : Sp) : Prop where
  ex : ∃ f fd, FnOk P w K mg base CX0 k f fd ps sp ∧ mg x = some (.ref C) ∧ PySem.W.findIn K (.ref C) "__init__" = some (some (.ref f)) ∧ PySem.W.typeIn K (.ref f) = some (.type "function") ∧ Binds K fd ps []
end
section
variable {X : Cx} {σ σ' : St} {H : Hp} {Q : VK} {N Vs Ls G : List Str} {k k' : Nat} {sc : Scope} {a b e o : Expr} {es : List Expr} {pos p1 p2 p3 p4 apos : Pos} {nx : St → Hp → Prop} {D : B3} {W : WX} {x m : Str} {ps : List Str} {sp : Sp} {Cl : Addr}
theorem xe_callX (C : Ctx X sc N Vs Ls G k) (F : DefOkX X.prog X.w X.K X.mg X.base x ps k' sp) (tk : Takes X W) (hg : Mem G x) (hk : k' ≤ k) (h : XA X (a :: es) σ H fun vs H1 => sp vs H1 Q (fun cls d H' => W cls d σ H'))
    (hdb : (x == ("__debug__" : Str)) = false := by decide) (he : starEach (a :: es) X.env = (false, eval a X.env) :: starEach es X.env := by rfl) (hpl : (backTo pos (starEach es X.env)).any (·.1) = false := by rfl) : XE X (.Call (.Name x p1) (a :: es) [] pos) σ H Q := by
  obtain ⟨f, fd, F, hm, kp, b⟩ := F.ex
  exact ⟨_, pe_callS F (C.room.mono hk) (C.gl hg) hm kp b (fun σ => passAt tk σ) XA.pa hdb he hpl, h⟩
def tMethS (C : Addr) (m : Str) (sp : Sp) (E : St → XK) (ta : TE) (t : TA) : TE := fun σ H Q => ta σ H fun x H1 => ∃ a dx fs, x = .ref a ∧ H1 a = some (.ins C dx fs) ∧ List.lookup m fs = none ∧ t σ H1 fun vs H2 => sp (x :: vs) H2 Q (E σ)
theorem pe_methE {CX : CXT} {f : Addr} {fd : FuncData} {E : St → XK} {ta : TE} {t : TA} {pl : Sem Bool} (he : PE X o ta) (c : Cls X.K Cl) (hm : Meth X.K Cl m f) (F : FnOk X.prog X.w X.K X.mg X.base CX k f fd ps sp) (hr : Room k X.A) (hb : Binds X.K fd ps []) (hx : ∀ σ, PassesAt CX X σ (E σ)) (ha : PA X (e :: es) t)
    (hst : starEach (e :: es) X.env = (false, eval e X.env) :: starEach es X.env := by rfl) (hpl : (backTo pos (starEach es X.env)).any (·.1) = false := by rfl)
    (ht : eval (.Call (.Attribute o m apos) (e :: es) [] pos) X.env = (do
      let ov ← eval o X.env
      standAt apos.atName
      let (f, first) ← holding [ov] (getMethod ov m pl)
      callWith pos f first (backTo pos (starEach (e :: es) X.env)) (backToKw pos (keywordEach [] X.env))) := by rfl) :
    PE X (.Call (.Attribute o m apos) (e :: es) [] pos) (tMethS Cl m sp E ta t) := by
  refine ⟨fun pins s σ H Q I h => ?_⟩
  refine PySem.W.methodCall_KW (pl := pl) (thn (he.run pins s σ H _ I h) fun u s1 ⟨x, H1, I1, rx, a, dx, fs, ex, ea, l, q⟩ => ?_) ht
  subst ex
  obtain rfl : u = Value.ref a := rx
  refine getmeth_ok I1 ea c hm l ?_
  refine PySem.W.callWith_K (first := [.ref a]) (h₀ := X.base) I.ok.mod.kin hm.kp (thn (ha.run pos pins s1 σ H1 _ I1 q) fun us s2 ⟨vs, H2, I2, r, q2⟩ => ⟨I2.kIn, ?_⟩) hst hpl
  exact run_fnS (us := .ref a :: us) (vs := .ref a :: vs) F hr hb (hx σ) I2 (.cons rfl r) q2
theorem xe_methX {pl : Sem Bool} (C : Ctx X sc N Vs Ls G k) (F : MetOkX X.prog X.w X.K X.mg X.base Cl m ps k' sp) (tk : Takes X W) (cl : Cls X.K Cl) (hk : k' ≤ k)
    (h : XE X o σ H fun x H1 => ∃ a dx fs, x = .ref a ∧ H1 a = some (.ins Cl dx fs) ∧ List.lookup m fs = none ∧ XA X (e :: es) σ H1 fun vs H2 => sp (x :: vs) H2 Q (fun cls d H' => W cls d σ H'))
    (hpl : (backTo pos (starEach es X.env)).any (·.1) = false := by rfl)
    (hst : starEach (e :: es) X.env = (false, eval e X.env) :: starEach es X.env := by rfl)
    (hcall : eval (.Call (.Attribute o m apos) (e :: es) [] pos) X.env = (do
      let obj ← eval o X.env
      standAt apos.atName
      let (g, who) ← holding [obj] (getMethod obj m pl)
      callWith pos g who (backTo pos (starEach (e :: es) X.env)) (backToKw pos (keywordEach [] X.env))) := by rfl) : XE X (.Call (.Attribute o m apos) (e :: es) [] pos) σ H Q := by
  obtain ⟨f, fd, F, M, b⟩ := F.ex
  exact ⟨_, pe_methE XE.pe cl M F (C.room.mono hk) b (fun σ => passAt tk σ) XA.pa hst hpl hcall, h⟩
/-! raise -/
theorem kp_made {H1 : Hp} {a d : Addr} {oa oa' od od2 : HO} (ha : H1 a = none) (hd : H1 d = none) : Kp [] H1 (upd (L2.del (upd (upd (upd H1 a oa) d od) a oa') a) d od2) := by
  have ne : ∀ q u, H1 q = some u → q ≠ a ∧ q ≠ d := fun q u h => ⟨fun e => (by rw [e, ha] at h; cases h), fun e => (by rw [e, hd] at h; cases h)⟩
  have k : ∀ q u, H1 q = some u → upd (L2.del (upd (upd (upd H1 a oa) d od) a oa') a) d od2 q = some u := fun q u h => by
    obtain ⟨n1, n2⟩ := ne q u h
    rw [upd_ne n2, del_ne n1, upd_ne n1, upd_ne n2, upd_ne n1]; exact h
  refine Kp.of (fun q u h => k q u h) (fun q h => ?_)
  cases hq : H1 q with
  | none => rfl
  | some u => rw [k q u hq] at h; cases h
/-- the promise of an __init__ that stores one field -/
def sp_err1 (C : Addr) (f : Str) : Sp := fun vs H Q _ => ∃ (a : Addr) (v : V), vs = [.ref a, v] ∧ H a = some (exo a C none) ∧ ∀ dx, H dx = none → dx ≠ a → Q .non (upd (upd H dx (exd dx [(f, v)])) a (exo a C (some dx)))
theorem xs_raise1 {C : Addr} {f : Str} (Cc : Ctx X sc N Vs Ls G k) (F : ErrOk X.prog X.w X.K X.mg X.base x C ps k' (sp_err1 C f)) (E : ErrC X.K C) (tk : Takes X W) (hg : Mem G x) (hk : k' + 1 ≤ k)
    (h : XE X a σ H fun v H1 => ∀ d H', Kp [] H1 H' → H1 d = none → H' d = some (.xd [(f, v)]) → W (.ref C) (some d) σ H')
    (hdb : (x == ("__debug__" : Str)) = false := by decide) (he : starEach (a :: []) X.env = (false, eval a X.env) :: starEach [] X.env := by rfl) (hpl : (backTo p2 (starEach [] X.env)).any (·.1) = false := by rfl) :
    XS X (.Raise (some (.Call (.Name x p1) [a] [] p2)) none pos) nx D σ H := by
  obtain ⟨fI, fd, F, hm, iC, tI, b⟩ := F.ex
  refine ⟨_, ps_raise Cc.calm tk (pmk_oex E.ox iC tI F (Cc.room.mono hk) b .nil pass0 (Cc.gl hg) hm XA.pa hdb he hpl), ?_⟩
  refine xa_cons (hs := he) (XE.mono h fun v H1 q => xa_nil ⟨by simp, fun a ha => ?_⟩)
  refine ⟨a, v, rfl, upd_same, fun dx hdx ne => ⟨rfl, dx, [(f, v)], upd_same, by rw [upd_ne ne]; exact upd_same, by rw [upd_ne ne] at hdx; exact hdx, ?_⟩⟩
  rw [upd_ne ne] at hdx
  exact q dx _ (kp_made ha hdx) hdx upd_same
/-- the promise of an __init__ that stores two fields -/
def sp_err2 (C : Addr) (f g : Str) : Sp := fun vs H Q _ => ∃ (a : Addr) (v u : V), vs = [.ref a, v, u] ∧ H a = some (exo a C none) ∧ ∀ dx, H dx = none → dx ≠ a → Q .non (upd (upd (upd H dx (exd dx [(f, v)])) a (exo a C (some dx))) dx (exd dx [(g, u), (f, v)]))
theorem kp_made2 {H1 : Hp} {a d : Addr} {oa oa' od od' od2 : HO} (ha : H1 a = none) (hd : H1 d = none) : Kp [] H1 (upd (L2.del (upd (upd (upd (upd H1 a oa) d od) a oa') d od') a) d od2) := by
  have ne : ∀ q u, H1 q = some u → q ≠ a ∧ q ≠ d := fun q u h => ⟨fun e => (by rw [e, ha] at h; cases h), fun e => (by rw [e, hd] at h; cases h)⟩
  have k : ∀ q u, H1 q = some u → upd (L2.del (upd (upd (upd (upd H1 a oa) d od) a oa') d od') a) d od2 q = some u := fun q u h => by
    obtain ⟨n1, n2⟩ := ne q u h
    rw [upd_ne n2, del_ne n1, upd_ne n2, upd_ne n1, upd_ne n2, upd_ne n1]; exact h
  refine Kp.of (fun q u h => k q u h) (fun q h => ?_)
  cases hq : H1 q with
  | none => rfl
  | some u => rw [k q u hq] at h; cases h
theorem xs_raise2 {C : Addr} {f g : Str} (Cc : Ctx X sc N Vs Ls G k) (F : ErrOk X.prog X.w X.K X.mg X.base x C ps k' (sp_err2 C f g)) (E : ErrC X.K C) (tk : Takes X W) (hg : Mem G x) (hk : k' + 1 ≤ k)
    (h : XE X a σ H fun v H0 => XE X b σ H0 fun u H1 => ∀ d H', Kp [] H1 H' → H1 d = none → H' d = some (.xd [(g, u), (f, v)]) → W (.ref C) (some d) σ H')
    (hdb : (x == ("__debug__" : Str)) = false := by decide) (he : starEach (a :: [b]) X.env = (false, eval a X.env) :: starEach [b] X.env := by rfl) (he2 : starEach (b :: []) X.env = (false, eval b X.env) :: starEach [] X.env := by rfl) (hpl : (backTo p2 (starEach [b] X.env)).any (·.1) = false := by rfl) :
    XS X (.Raise (some (.Call (.Name x p1) [a, b] [] p2)) none pos) nx D σ H := by
  obtain ⟨fI, fd, F, hm, iC, tI, b⟩ := F.ex
  refine ⟨_, ps_raise Cc.calm tk (pmk_oex E.ox iC tI F (Cc.room.mono hk) b .nil pass0 (Cc.gl hg) hm XA.pa hdb he hpl), ?_⟩
  refine xa_cons (hs := he) (XE.mono h fun v H0 q => xa_cons (hs := he2) (XE.mono q fun u H1 q => xa_nil ⟨by simp, fun a ha => ?_⟩))
  refine ⟨a, v, u, rfl, upd_same, fun dx hdx ne => ⟨rfl, dx, [(g, u), (f, v)], by rw [upd_ne (Ne.symm ne)]; exact upd_same, upd_same, by rw [upd_ne ne] at hdx; exact hdx, ?_⟩⟩
  rw [upd_ne ne] at hdx
  exact q dx _ (kp_made2 (od' := exd dx [(g, u), (f, v)]) ha hdx) hdx upd_same
/-- self.f = y in an exception's __init__ -/
theorem xs_ost {f : Str} (h : XE X e σ H fun y H1 => XE X o σ H1 fun x H2 => ∃ a C : Addr, x = .ref a ∧ OexC X.K C ∧ PySem.W.findIn X.K (.ref C) f = some none ∧
  ((H2 a = some (exo a C none) ∧ ∀ dx, H2 dx = none → dx ≠ a → nx σ (upd (upd H2 dx (exd dx [(f, y)])) a (exo a C (some dx)))) ∨
    ∃ (dx : Addr) (fs : List (Str × V)), H2 a = some (exo a C (some dx)) ∧ H2 dx = some (exd dx fs) ∧ fs.length ≤ 900 ∧ nx σ (upd H2 dx (exd dx ((f, y) :: fs)))))
    (hs : swapsWith e (some (.Attribute o f p1)) pos.line X.env = pure false := by rfl) : XS X (.Assign [.Attribute o f p1] e pos) nx D σ H := ⟨_, ps_ost XE.pe XE.pe hs, h⟩
/-! try .. except x as n -/
theorem ctx_tr (C : Ctx X sc N Vs Ls G k) {pn : List (Addr × Obj)} {xe : Value → Shared → Prop} (po : PassesOwn (model X.prog X.w) X.A X.env xe) : Ctx (X.tr pn xe) sc N Vs Ls G k := ⟨C.hN, C.nd, C.esc, C.ok, C.calm, C.fn, po, C.knd, C.room⟩
theorem wp_nil {σ : St} {n : Str} {i : Nat} {v : V} (hi : N[i]? = some n) (nd : N.Nodup) (h : Put N σ n v σ') : σ.set i (some v) = σ' := by
  obtain ⟨j, hj, e⟩ := h.ix
  have ij : i = j := nd_ix nd hi hj
  subst ij; exact e
theorem xs_tryAs {n : Str} {c : Value} {Wout : WX} {body suite : List Stmt} {b₀ : Stmt} {np pos' : Pos} (C : Ctx X sc N Vs Ls G k) (Tp : Top X) (hn : Mem N n) (hln : sc.names.lookup n = some .local) (hgx : Mem G x) (hdx : (x == ("__debug__" : Str)) = false) (hmx : X.mg x = some c) (tk : Takes X Wout)
    (h : ∀ (pn : List (Addr × Obj)) (xe : Value → Shared → Prop) (W : WX), Takes (X.tr pn xe) W → Ctx (X.tr pn xe) sc N Vs Ls G k →
      (∀ (cls : Value) (d : Option Addr) (σ1 : St) (H1 : Hp), (PySem.W.exmOne X.K cls c = some true ∧ ∀ (a : Addr) (oe : Obj) (pn' : List (Addr × Obj)) (i : Nat), N[i]? = some n → H1 a = none → Zc cls d oe → (∃ vs, oe.data = .fields vs) → XB (X.suite a ((a, oe) :: pn')) (b₀ :: suite) (fun σ' H' => nx (σ'.set i none) H') ⟨D.rt, fun σ' H' => D.bk (σ'.set i none) H', fun σ' H' => D.ct (σ'.set i none) H'⟩ (σ1.set i (some (.ref a))) H1) → W cls d σ1 H1) →
      XB (X.tr pn xe) body nx D σ H) :
    XS X (.Try body [.ExceptHandler (some (.Name x np)) (some n) (b₀ :: suite) pos'] [] [] pos) nx D σ H := by
  have hn' := hn.mem
  obtain ⟨i, hi⟩ := List.getElem?_of_mem hn'
  have hln' : X.env.kindOf n = some .local := by
    show X.env.scope.names.lookup n = _
    rw [C.esc]; exact hln
  have nd : X.N.Nodup := by rw [C.hN]; exact C.nd
  let tb : WX → TS := fun W D σ H => ∀ (pn : List (Addr × Obj)) (xe : Value → Shared → Prop), Takes (X.tr pn xe) W → PassesOwn (model X.prog X.w) X.A X.env xe → XB (X.tr pn xe) body D.nx ⟨D.rt, D.bk, D.ct⟩ σ H
  let ts : Addr → Value → Option Addr → TS := fun a cls d D σ H => ∀ (oe : Obj) (pn : List (Addr × Obj)), Zc cls d oe → (∃ vs, oe.data = .fields vs) → XB (X.suite a ((a, oe) :: pn)) (b₀ :: suite) D.nx ⟨D.rt, D.bk, D.ct⟩ σ H
  refine ⟨_, ps_try_as (tb := tb) (ts := ts) Tp.hs Tp.hf nd (i := i) (by rw [C.hN]; exact hi) hln' ⟨C.gl hgx, hdx, .inl hmx⟩ tk (fun W pn xe t po => ?_) (fun a oe cls d pn hz hf => ?_), ?_⟩
  · exact ⟨fun pins s σ H D I h => (XB.ps).run pins s σ H D I (h pn xe t po)⟩
  · exact ⟨fun pins s σ H D I h => (XB.ps).run pins s σ H D I (h oe pn hz hf)⟩
  · intro pn xe t po
    refine h pn xe _ t (ctx_tr C po) (fun cls d σ1 H1 ⟨hm, hq⟩ => ⟨true, hm, fun _ a ha oe pn' hz hf => hq a oe pn' i hi ha hz hf, fun z => nomatch z⟩)
theorem exm_of {C cls : Addr} {b : Bool} {K : PySem.W.Frag} (B : ErrB K C) (h : PySem.W.subIn K (.ref cls) (.ref C) = some b) : PySem.W.exmOne K (.ref cls) (.ref C) = some b := PySem.W.exm_ref B.exC B.hdC B.tyC h
/-! in the suite of an except clause -/
section
variable {ea : Addr} {oe : Obj} {pn : List (Addr × Obj)} {cls : Value} {d : Option Addr} {v : V}
theorem xe_varH (C : Ctx X sc N Vs Ls G k) (hv : Mem Vs x) (h : At N σ x v) (q : Q v H) (hd : (x == ("__debug__" : Str)) = false := by decide) (hcd : (x == ("__classdict__" : Str)) = false := by decide) : XE (X.suite ea pn) (.Name x pos) σ H Q := by
  obtain ⟨i, h1, h2⟩ := h.ix
  exact ⟨_, pe_var (X := X.suite ea pn) (i := i) (by show X.N[i]? = _; rw [C.hN]; exact h1) (C.vis hv) hd hcd, v, h2, q⟩
/-- the caught exception itself -/
theorem xe_excH {n : Str} {i : Nat} {p : Addr} (C : Ctx X sc N Vs Ls G k) (hv : Mem Vs n) (hi : N[i]? = some n) (hl : i < σ.length) (q : Q (.ref p) H) (hd : (n == ("__debug__" : Str)) = false := by decide) (hcd : (n == ("__classdict__" : Str)) = false := by decide) : XE (X.suite ea pn) (.Name n pos) (σ.set i (some (.ref p))) H Q :=
  ⟨_, pe_var (X := X.suite ea pn) (i := i) (by show X.N[i]? = _; rw [C.hN]; exact hi) (C.vis hv) hd hcd, .ref p, by simp [hl], q⟩
theorem call_isX {Dc : Addr} (E : ErrC X.K Dc) (hz : Zc (.ref Dc) d oe) (hf : ∃ vs, oe.data = .fields vs) : CallR (X.suite ea ((ea, oe) :: pn)) (.builtin "isinstance") (fun xs H Q => ∃ (c : V) (cv : Value) (b : Bool) (dd : Addr) (fs : List (Str × V)), xs = [.ref ea, c] ∧ (∀ u, RelV c u → u = cv) ∧ PySem.W.kitOne X.K (.ref Dc) cv = some b ∧ d = some dd ∧ H dd = some (.xd fs) ∧ Q (.bl b) H) := by
  intro pins s σ H xs us Q I r h
  obtain ⟨c, cv, b, dd, fs, rfl, hcv, e, ed, hdd, q⟩ := h
  subst ed
  cases r with
  | cons rx rr =>
    cases rr with
    | cons rt rr =>
      cases rr
      cases rx
      have ec := hcv _ rt
      subst ec
      obtain ⟨hget, _⟩ := I.pin (ea, oe) (List.mem_append.mpr (.inl List.mem_cons_self))
      obtain ⟨vs, hv⟩ := hf
      have hx : ObjOk X.prog X.w H s.heap dd (.xd fs) := I.hok dd _ hdd
      obtain ⟨mA, hns, hr⟩ := hx
      obtain ⟨od, ho, hl⟩ := lookIn_ns hns
      have J : PySem.W.InstAt s.heap ea oe Dc (some od) := ⟨hget, hz.1, by unfold PySem.W.notCls; rw [hv] <;> rfl, by rw [hz.2]; exact ho⟩
      exact PySem.W.kia_one (PySem.W.kitx_exc E.hcl E.xf.ga E.xf.gg E.xf.exC E.ha E.hn E.ht E.hm) I.kIn J e (fun z => nomatch z) fun tk => ⟨.bl b, H, I.kept (t' := tk) fun _ _ z => z, rfl, q⟩
theorem xe_isH {n cn : Str} {i : Nat} {Dc D2 dd : Addr} {fs : List (Str × V)} {bb : Bool} (C : Ctx X sc N Vs Ls G k) (E : ErrC X.K Dc) (hz : Zc (.ref Dc) (some dd) oe) (hf : ∃ vs, oe.data = .fields vs) (hg : Mem G "isinstance") (hm : X.mg "isinstance" = none) (hgc : Mem G cn) (mgc : X.mg cn = some (.ref D2)) (he : PySem.W.kitOne X.K (.ref Dc) (.ref D2) = some bb) (hv : Mem Vs n) (hi : N[i]? = some n) (hl : i < σ.length) (hdd : H dd = some (.xd fs)) (q : Q (.bl bb) H)
    (hd : (n == ("__debug__" : Str)) = false := by decide) (hcd : (n == ("__classdict__" : Str)) = false := by decide) (hdc : (cn == ("__debug__" : Str)) = false := by decide) : XE (X.suite ea ((ea, oe) :: pn)) (.Call (.Name "isinstance" p1) [.Name n p2, .Name cn p3] [] pos) (σ.set i (some (.ref ea))) H Q := by
  have gl : ∀ {y : Str}, Mem G y → Gl (X.suite ea ((ea, oe) :: pn)) y := fun h => C.gl h
  refine ⟨_, pe_callB (X := X.suite ea ((ea, oe) :: pn)) (call_isX E hz hf) (gl hg) hm PyProof.Rows.boot_isinstance XA.pa (by decide) (by decide) (by rfl) (by rfl), ?_⟩
  refine xa_cons (hs := by rfl) (xe_excH C hv hi hl ?_ hd hcd)
  refine xa_cons (hs := by rfl) ?_
  refine ⟨_, pe_glob (X := X.suite ea ((ea, oe) :: pn)) (v := .ref D2) (gl hgc) mgc rfl hdc, xa_nil ⟨.ref D2, .ref D2, bb, dd, fs, rfl, fun u h => h, he, rfl, hdd, q⟩⟩
theorem xe_xfH {n f : Str} {i : Nat} {Dc dd : Addr} {fs : List (Str × V)} (C : Ctx X sc N Vs Ls G k) (E : ErrC X.K Dc) (hno : PySem.W.findIn X.K (.ref Dc) f = some none) (hz : Zc (.ref Dc) (some dd) oe) (hf : ∃ vs, oe.data = .fields vs) (hv : Mem Vs n) (hi : N[i]? = some n) (hl : i < σ.length) (hdd : H dd = some (.xd fs)) (hlk : fs.lookup f = some v) (q : Q v H)
    (hd : (n == ("__debug__" : Str)) = false := by decide) (hcd : (n == ("__classdict__" : Str)) = false := by decide) (hb : attributeBase (.Name n p1) f X.env (eval (.Name n p1) X.env) = eval (.Name n p1) X.env := by rfl) : XE (X.suite ea ((ea, oe) :: pn)) (.Attribute (.Name n p1) f pos) (σ.set i (some (.ref ea))) H Q :=
  ⟨_, pe_xf (X := X) E.xf hno hz hf (XE.pe) hb, xe_excH C hv hi hl ⟨rfl, rfl, dd, fs, v, rfl, hdd, hlk, q⟩ hd hcd⟩
end
end
/-! what the top leaves -/
structure Txt (P : Program) (w : World) (K : PySem.W.Frag) (mg : Str → Option Value) (base : Heap) where
  b_abs : mg "abs" = none
  b_bool : mg "bool" = none
  b_enumerate : mg "enumerate" = none
  b_int : mg "int" = none
  b_isinstance : mg "isinstance" = none
  b_len : mg "len" = none
  b_list : mg "list" = none
  b_min : mg "min" = none
  b_range : mg "range" = none
  b_sorted : mg "sorted" = none
  b_str : mg "str" = none
  b_tuple : mg "tuple" = none
  b_zip : mg "zip" = none
  c_PRIME : ∃ t, mg "PRIME" = some (.int 2305843009213693951 t)
  c_BEACON : ∃ t, mg "BEACON" = some (.int 1 t)
  c_DOCUMENT : ∃ t, mg "DOCUMENT" = some (.int 2 t)
  c_HEAD : ∃ t, mg "HEAD" = some (.int 4 t)
  c_RENEWAL : ∃ t, mg "RENEWAL" = some (.int 5 t)
  c_NODE : ∃ t, mg "NODE" = some (.int 3 t)
  c_CITE : ∃ t, mg "CITE" = some (.str "cite" t)
  c_BACK : ∃ t, mg "BACK" = some (.str "back" t)
  c_ENTRY : ∃ t, mg "ENTRY" = some (.str "entry" t)
  E_SealError : Addr
  mg_SealError : mg "SealError" = some (.ref E_SealError)
  eb_SealError : ErrB K E_SealError
  E_ThingError : Addr
  mg_ThingError : mg "ThingError" = some (.ref E_ThingError)
  eb_ThingError : ErrB K E_ThingError
  nf_ThingError_reason : PySem.W.findIn K (.ref E_ThingError) "reason" = some none
  ec_ThingError : ErrC K E_ThingError
  i_ThingError : ∃ f fd, PySem.W.findIn K (.ref E_ThingError) "__init__" = some (some (.ref f)) ∧ PySem.W.typeIn K (.ref f) = some (.type "function") ∧ Fun K "__init__" "ThingError.__init__" s_ThingError___init__ f fd ∧ Binds K fd ["self", "reason"] []
  up_ThingError_ThingError : PySem.W.subIn K (.ref E_ThingError) (.ref E_ThingError) = some true
  up_ThingError_SealError : PySem.W.subIn K (.ref E_ThingError) (.ref E_SealError) = some true
  d_digest : DefAt K mg "digest" "digest" s_digest ["mixing", "row"]
  d__mixed : DefAt K mg "_mixed" "_mixed" s__mixed ["mixing", "state", "number"]
  d_digest_of : DefAt K mg "digest_of" "digest_of" s_digest_of ["mixing", "row"]
  d_is_thing : DefAt K mg "is_thing" "is_thing" s_is_thing ["row"]
  d__is_document : DefAt K mg "_is_document" "_is_document" s__is_document ["row"]
  d__is_head : DefAt K mg "_is_head" "_is_head" s__is_head ["row"]
  d_kind_of : DefAt K mg "kind_of" "kind_of" s_kind_of ["row"]
  d__back_count : DefAt K mg "_back_count" "_back_count" s__back_count ["number"]
  d__greatest_step : DefAt K mg "_greatest_step" "_greatest_step" s__greatest_step ["number"]
  d__first_count : DefAt K mg "_first_count" "_first_count" s__first_count ["count"]
  d_root_of : DefAt K mg "root_of" "root_of" s_root_of ["mixing", "entries"]
  d__root_and_nodes : DefAt K mg "_root_and_nodes" "_root_and_nodes" s__root_and_nodes ["mixing", "entries"]
  d_way_of : DefAt K mg "way_of" "way_of" s_way_of ["mixing", "entries", "index"]
  d_turns : DefAt K mg "turns" "turns" s_turns ["count", "index"]
  d_clash_of_entries : DefAt K mg "clash_of_entries" "clash_of_entries" s_clash_of_entries ["mixing", "one", "two"]
  d__first_difference : DefAt K mg "_first_difference" "_first_difference" s__first_difference ["one_nodes", "two_nodes"]
  d_listed : DefAt K mg "listed" "listed" s_listed ["row", "word"]
  d_is_right_round : DefAt K mg "is_right_round" "is_right_round" s_is_right_round ["before", "row", "place"]
  d__are_entries : DefAt K mg "_are_entries" "_are_entries" s__are_entries ["mixing", "row", "entries"]
  d__law_cell : DefAt K mg "_law_cell" "_law_cell" s__law_cell ["script", "k"]
  d__law_row : DefAt K mg "_law_row" "_law_row" s__law_row ["script", "first", "last"]
  d__law_draw : DefAt K mg "_law_draw" "_law_draw" s__law_draw ["box", "many"]
  d__law_is_integer : DefAt K mg "_law_is_integer" "_law_is_integer" s__law_is_integer ["told"]
  d__law_same : DefAt K mg "_law_same" "_law_same" s__law_same ["told", "due"]
  d__law_mix : DefAt K mg "_law_mix" "_law_mix" s__law_mix ["box"]
  d__law_digest : DefAt K mg "_law_digest" "_law_digest" s__law_digest ["mix", "row"]
  d__law_half : DefAt K mg "_law_half" "_law_half" s__law_half ["count"]
  d__law_root : DefAt K mg "_law_root" "_law_root" s__law_root ["mix", "entries"]
  d__law_way : DefAt K mg "_law_way" "_law_way" s__law_way ["mix", "entries", "index"]
  d__law_backs : DefAt K mg "_law_backs" "_law_backs" s__law_backs ["number"]
  d__law_pool : DefAt K mg "_law_pool" "_law_pool" s__law_pool ["box", "mix", "things"]
  d__law_pick : DefAt K mg "_law_pick" "_law_pick" s__law_pick ["box", "numbers"]
  d__law_head : DefAt K mg "_law_head" "_law_head" s__law_head ["box", "mix", "things", "numbers"]
  d__law_thing : DefAt K mg "_law_thing" "_law_thing" s__law_thing ["box", "mix", "things"]
  d__law_things : DefAt K mg "_law_things" "_law_things" s__law_things ["box", "mix", "many"]
  d__law_places : DefAt K mg "_law_places" "_law_places" s__law_places ["mix", "thing", "before"]
  d__law_known : DefAt K mg "_law_known" "_law_known" s__law_known ["mix", "things"]
  d__law_filled : DefAt K mg "_law_filled" "_law_filled" s__law_filled ["mix", "known"]
  d__law_edges : DefAt K mg "_law_edges" "_law_edges" s__law_edges ["mix", "known"]
  d__law_steps_to : DefAt K mg "_law_steps_to" "_law_steps_to" s__law_steps_to ["edges", "end"]
  d__law_due_path : DefAt K mg "_law_due_path" "_law_due_path" s__law_due_path ["mix", "known", "edges", "start", "end"]
  C_Mixing : Addr
  cl_Mixing : Cls K C_Mixing
  mg_Mixing : mg "Mixing" = some (.ref C_Mixing)
  na_Mixing_bound : NoAttr K C_Mixing "bound"
  na_Mixing_factor : NoAttr K C_Mixing "factor"
  mk_Mixing : ∃ f fd, Mk K C_Mixing f ∧ Fun K "__init__" "Mixing.__init__" s_Mixing___init__ f fd ∧ Binds K fd ["self", "bound", "factor"] []
  C_Paper : Addr
  cl_Paper : Cls K C_Paper
  mg_Paper : mg "Paper" = some (.ref C_Paper)
  is_Paper : C8.InsC K C_Paper
  na_Paper_first : NoAttr K C_Paper "first"
  na_Paper_steps : NoAttr K C_Paper "steps"
  mk_Paper : ∃ f fd, Mk K C_Paper f ∧ Fun K "__init__" "Paper.__init__" s_Paper___init__ f fd ∧ Binds K fd ["self", "first", "steps"] []
  C_Library : Addr
  cl_Library : Cls K C_Library
  mg_Library : mg "Library" = some (.ref C_Library)
  na_Library__entries : NoAttr K C_Library "_entries"
  na_Library__rows : NoAttr K C_Library "_rows"
  na_Library_mixing : NoAttr K C_Library "mixing"
  mk_Library : ∃ f fd, Mk K C_Library f ∧ Fun K "__init__" "Library.__init__" s_Library___init__ f fd ∧ Binds K fd ["self", "mixing"] []
  m_Library_put : ∃ f fd, Meth K C_Library "put" f ∧ Fun K "put" "Library.put" s_Library_put f fd ∧ Binds K fd ["self", "row", "entries"] []
  m_Library_path : ∃ f fd, Meth K C_Library "path" f ∧ Fun K "path" "Library.path" s_Library_path f fd ∧ Binds K fd ["self", "start", "end"] []
  m_Library__following : ∃ f fd, Meth K C_Library "_following" f ∧ Fun K "_following" "Library._following" s_Library__following f fd ∧ Binds K fd ["self", "start", "end"] []
  bm_Library__row_with : ∀ g, Meth K C_Library "_row_with" g → BMeth K C_Library "_row_with" g
  m_Library__row_with : ∃ f fd, Meth K C_Library "_row_with" f ∧ Fun K "_row_with" "Library._row_with" s_Library__row_with f fd ∧ Binds K fd ["self", "mark"] []
  m_Library__first_place : ∃ f fd, Meth K C_Library "_first_place" f ∧ Fun K "_first_place" "Library._first_place" s_Library__first_place f fd ∧ Binds K fd ["self", "mark", "later"] []
  m_Library__whole_place : ∃ f fd, Meth K C_Library "_whole_place" f ∧ Fun K "_whole_place" "Library._whole_place" s_Library__whole_place f fd ∧ Binds K fd ["self", "mark", "place"] []
  m_Library__links_to : ∃ f fd, Meth K C_Library "_links_to" f ∧ Fun K "_links_to" "Library._links_to" s_Library__links_to f fd ∧ Binds K fd ["self", "mark"] []
  m_Library__held_by : ∃ f fd, Meth K C_Library "_held_by" f ∧ Fun K "_held_by" "Library._held_by" s_Library__held_by f fd ∧ Binds K fd ["self", "mark"] []
variable {P : Program} {w : World} {mg : Str → Option Value} {base : Heap} {K : PySem.W.Frag}
local macro_rules | `(tactic| wtm_at "go") => `(tactic| (subst e1; subst e2; subst e3; subst e4; subst e5; simp only [st0]; refine Z.xb_cons ?_))
/-! box -/
/-- the drawing box at b: a list of the drawn row, at r, and the place -/
def Box (H : Hp) (b r : Addr) : Prop := ∃ (i : Int) (ns : List Int), H b = some (.lst [.ref r, .int i]) ∧ 0 ≤ i ∧ H r = some (.lst (ns.map V.int))
theorem noInts {r : V} {i : V} {x : Addr} (hr : r = .ref x) : ∀ ns : List Int, HO.lst [r, i] ≠ .lst (ns.map V.int) := by
  intro ns e
  have e2 : [r, i] = ns.map V.int := HO.lst.inj e
  cases ns with
  | nil => cases e2
  | cons n ns => rw [List.map_cons] at e2; rw [hr] at e2; exact nomatch (List.cons.inj e2).1
theorem Box.br {H : Hp} {b r : Addr} (h : Box H b r) : r ≠ b := by
  obtain ⟨i, ns, h1, h2, h3⟩ := h
  intro e
  rw [e, h1] at h3
  exact noInts rfl ns (Option.some.inj h3)
theorem Box.nl {H : Hp} {b r l : Addr} (h : Box H b r) (n : H l = none) : b ≠ l ∧ r ≠ l := by
  obtain ⟨i, ns, h1, h2, h3⟩ := h
  exact ⟨ne_of_none h1 n, ne_of_none h3 n⟩
theorem Box.kp {H H' : Hp} {b r : Addr} (h : Box H b r) (k : Kp [] H H') : Box H' b r := by
  obtain ⟨i, ns, h1, h2, h3⟩ := h
  exact ⟨i, ns, k.at0 h1, h2, k.at0 h3⟩
theorem Box.kp1 {H H' : Hp} {b r l : Addr} (h : Box H b r) (k : Kp [l] H H') (n : b ≠ l ∧ r ≠ l) : Box H' b r := by
  obtain ⟨i, ns, h1, h2, h3⟩ := h
  exact ⟨i, ns, k.at (by simpa using n.1) h1, h2, k.at (by simpa using n.2) h3⟩
/-- a list of ints is not what is changed, if that is no list of ints -/
theorem ints_kp {K : PySem.W.Frag} {H H' : Hp} {b r : Addr} {u : HO} {ns : List Int} (h : SqL K H r (ns.map V.int)) (hb : H b = some u) (hu : ∀ ns : List Int, u ≠ .lst (ns.map V.int)) (k : Kp [b] H H') : SqL K H' r (ns.map V.int) := by
  rcases h with (h | ⟨o, h⟩) | h
  · refine .inl (.inl (k.at (fun m => ?_) h))
    have e : r = b := by simpa using m
    subst e
    rw [hb] at h
    exact hu ns (Option.some.inj h)
  · exact .inl (.inr ⟨o, k.z _ _ _ h⟩)
  · exact .inr h
theorem Box.ints {K : PySem.W.Frag} {H H' : Hp} {b r s : Addr} {ns : List Int} (h : Box H b r) (k : Kp [b] H H') (hs : SqL K H s (ns.map V.int)) : SqL K H' s (ns.map V.int) := by
  obtain ⟨i, ms, h1, h2, h3⟩ := h
  exact ints_kp hs h1 (noInts rfl) k
/-- what is no list is not the box -/
theorem Box.other {H H' : Hp} {b r p : Addr} {o : HO} (h : Box H b r) (k : Kp [b] H H') (ho : ∀ xs, o ≠ .lst xs) (hp : H p = some o) [NTc o] : H' p = some o := by
  obtain ⟨i, ms, h1, h2, h3⟩ := h
  refine k.at1 (fun e => ?_) hp
  rw [e, h1] at hp
  exact ho _ (Option.some.inj hp).symm
/-- numbers drawn one after another into the list at L -/
def LcI (P : Int → Prop) (H0 : Hp) (b r L : Addr) (t : Nat) (H' : Hp) : Prop := (b ≠ L ∧ r ≠ L) ∧ Kp [b, L] H0 H' ∧ Box H' b r ∧ ∃ ns : List Int, H' L = some (.lst (ns.map V.int)) ∧ ns.length = t ∧ ∀ n ∈ ns, P n
theorem LcI.start {P : Int → Prop} {H H0 : Hp} {b r L : Addr} (b0 : Box H b r) (k : Kp [] H H0) (n : H L = none) (e : H0 L = some (.lst [])) : LcI P H0 b r L 0 H0 := ⟨b0.nl n, Kp.refl _ _, b0.kp k, [], e, rfl, fun _ m => nomatch m⟩
theorem LcI.sz {P : Int → Prop} {H0 H8 H9 : Hp} {b r L : Addr} {t : Nat} (h : LcI P H0 b r L t H8) (ht : t < 100000) (k9 : Kp [b] H8 H9) : ∃ acc, H9 L = some (.lst acc) ∧ acc.length < sizeLine ∧ ∃ ns : List Int, acc = ns.map V.int ∧ H8 L = some (.lst (ns.map V.int)) ∧ ns.length = t ∧ ∀ n ∈ ns, P n := by
  obtain ⟨n, k, b8, ns, e, hl, hp⟩ := h
  exact ⟨_, k9.at1 n.1.symm e, szl (by rw [List.length_map]; omega), ns, rfl, e, hl, hp⟩
theorem LcI.push {P : Int → Prop} {H0 H8 H9 H10 : Hp} {b r L : Addr} {t : Nat} {ns : List Int} {d : Int} (h : LcI P H0 b r L t H8) (hl : ns.length = t) (hp : ∀ n ∈ ns, P n) (k9 : Kp [b] H8 H9) (b9 : Box H9 b r) (hd : P d) (k10 : Kp [L] H9 H10) (e : H10 L = some (.lst (ns.map V.int ++ [.int d]))) : LcI P H0 b r L (t + 1) H10 := by
  obtain ⟨n, k, _⟩ := h
  refine ⟨n, (k.tr1 k9 (.inl (by simp))).tr1 k10 (.inl (by simp)), b9.kp1 k10 n, ns ++ [d], by rw [e, List.map_append]; rfl, by simp [hl], fun m hm => ?_⟩
  rcases List.mem_append.mp hm with z | z
  · exact hp m z
  · rw [List.mem_singleton.mp z]; exact hd
theorem LcI.kp {P : Int → Prop} {H H0 H' : Hp} {b r L : Addr} {t : Nat} (h : LcI P H0 b r L t H') (k : Kp [] H H0) (n : H L = none) : Kp [b] H H' :=
  (k.wk (B := [b]) fun _ m => nomatch m).tr h.2.1 fun l m => by
    rcases List.mem_cons.mp m with z | z
    · exact .inl (by simp [z])
    · rw [List.mem_singleton.mp z]; exact .inr n
theorem Box.neInts {H : Hp} {b r e : Addr} {ns : List Int} (bx : Box H b r) (h : H e = some (.lst (ns.map V.int))) : e ≠ b := by
  obtain ⟨i, ms, h1, _, _⟩ := bx
  intro q
  rw [q, h1] at h
  exact noInts rfl ns (Option.some.inj h)
/-- facts that stand while the box is drawn from -/
class CarB (b r : Addr) (H H' : Hp) (P : Prop) (P' : outParam Prop) : Prop where
  kp : Box H b r → Kp [b] H H' → P → P'
theorem carB {b r : Addr} {H H' : Hp} {P P' : Prop} [c : CarB b r H H' P P'] (bx : Box H b r) (k : Kp [b] H H') (h : P) : P' := c.kp bx k h
/-- not the box -/
class Nb (p b : Addr) : Prop where
  ne : p ≠ b
section
variable {H H' : Hp} {b r : Addr}
instance : Car H H' (Box H b r) (Box H' b r) := ⟨fun k n ⟨i, ns, h1, h2, h3⟩ => ⟨i, ns, k.atN n h1, h2, k.atN n h3⟩⟩
instance {K : PySem.W.Frag} {p : Addr} {xs : List V} : CarB b r H H' (SqT K H p xs) (SqT K H' p xs) := ⟨fun _ k h => k.tup h⟩
instance {p : Addr} {xs : List V} : CarB b r H H' (H p = some (.tup xs)) (H' p = some (.tup xs)) := ⟨fun _ k h => k.t _ _ h⟩
instance {p : Addr} {ns : List Int} : CarB b r H H' (H p = some (.lst (ns.map V.int))) (H' p = some (.lst (ns.map V.int))) := ⟨fun bx k h => k.at1 (bx.neInts h) h⟩
instance {p x y : Addr} : CarB b r H H' (H p = some (.lst [.ref x, .ref y])) (H' p = some (.lst [.ref x, .ref y])) := ⟨fun bx k h => k.at1 (fun e => by
  obtain ⟨i, ms, h1, _, _⟩ := bx
  rw [e, h1] at h
  exact nomatch (List.cons.inj (List.cons.inj (HO.lst.inj (Option.some.inj h))).2).1) h⟩
instance {p C dx : Addr} {fs : List (Str × V)} : CarB b r H H' (H p = some (.ins C dx fs)) (H' p = some (.ins C dx fs)) := ⟨fun bx k h => bx.other k (fun _ z => nomatch z) h⟩
instance {p : Addr} {ds : List (List Key × V)} : CarB b r H H' (H p = some (.dT ds)) (H' p = some (.dT ds)) := ⟨fun bx k h => bx.other k (fun _ z => nomatch z) h⟩
instance {p : Addr} {o : HO} [n : Nb p b] [NTc o] : CarB b r H H' (H p = some o) (H' p = some o) := ⟨fun _ k h => k.at1 n.ne h⟩
instance {K : PySem.W.Frag} {p : Addr} {ns : List Int} : CarB b r H H' (SqL K H p (ns.map V.int)) (SqL K H' p (ns.map V.int)) := ⟨fun bx k h => bx.ints k h⟩
instance {H0 : Hp} : CarB b r H H' (Fr [b] H0 H) (Fr [b] H0 H') := ⟨fun _ k h => (h.k.tr1 k (.inl (by simp)) : Kp [b] H0 H')⟩
instance {H0 : Hp} : CarB b r H H' (Kp [b] H0 H ∧ True) (Kp [b] H0 H' ∧ True) := ⟨fun _ k h => ⟨h.1.tr1 k (.inl (by simp)), trivial⟩⟩
end
/-! rows -/
/-- tuples of ints -/
def RowsAt (K : PySem.W.Frag) (H : Hp) (n : Nat) (xs : List V) : Prop := ∀ y ∈ xs, ∃ (q : Addr) (ns : List Int), y = V.ref q ∧ SqT K H q (ns.map V.int) ∧ ns.length ≤ n
theorem RowsAt.kp {K : PySem.W.Frag} {A : List Addr} {H H' : Hp} {n : Nat} {xs : List V} (h : RowsAt K H n xs) (k : Kp A H H') : RowsAt K H' n xs := fun y hy => by
  obtain ⟨q, ns, e, h1, h2⟩ := h y hy
  exact ⟨q, ns, e, k.tup h1, h2⟩
theorem RowsAt.snoc {K : PySem.W.Frag} {H : Hp} {n : Nat} {xs : List V} {q : Addr} {ns : List Int} (h : RowsAt K H n xs) (h1 : SqT K H q (ns.map V.int)) (h2 : ns.length ≤ n) : RowsAt K H n (xs ++ [.ref q]) := fun y hy => by
  rcases List.mem_append.mp hy with m | m
  · exact h y m
  · exact ⟨q, ns, List.mem_singleton.mp m, h1, h2⟩
theorem cut_ints (rs : List Int) (lo hi : Option Int) : ∃ ns : List Int, cutV (rs.map V.int) lo hi = ns.map V.int ∧ ns.length ≤ rs.length ∧ ∀ n ∈ ns, n ∈ rs := by
  refine ⟨(rs.drop (HT.sIx (rs.map V.int).length 0 lo)).take (HT.sIx (rs.map V.int).length (rs.map V.int).length hi - HT.sIx (rs.map V.int).length 0 lo), ?_, ?_, fun n m => List.mem_of_mem_drop (List.mem_of_mem_take m)⟩
  · unfold cutV
    rw [List.map_take, List.map_drop]
  · rw [List.length_take, List.length_drop]; omega
def sp_law (K : PySem.W.Frag) : Sp := fun vs H Q _ => ∃ (a : Addr) (ns : List Int), vs = [.ref a] ∧ SqL K H a (ns.map V.int) ∧ ns.length ≤ 63 ∧ ∀ H', Q (.bl true) H'
/-! pow2 -/
/-! how often two divides -/
theorem and_odd (k : Nat) : (2 * k + 1) &&& (2 * k) = 2 * k := by
  apply Nat.eq_of_testBit_eq
  intro i
  cases i with
  | zero => simp
  | succ i =>
    have e1 : (2 * k + 1) / 2 = k := by omega
    have e2 : 2 * k / 2 = k := by omega
    rw [Nat.testBit_and, Nat.testBit_succ, Nat.testBit_succ, e1, e2, Bool.and_self]
theorem and_even (k : Nat) (h : 0 < k) : (2 * k) &&& (2 * k - 1) = 2 * (k &&& (k - 1)) := by
  apply Nat.eq_of_testBit_eq
  intro i
  have e : (2 * k - 1) / 2 = k - 1 := by omega
  have e2 : 2 * k / 2 = k := by omega
  have e3 : 2 * (k &&& (k - 1)) / 2 = k &&& (k - 1) := by omega
  cases i with
  | zero => simp [Nat.testBit_and]
  | succ i => rw [Nat.testBit_and, Nat.testBit_succ, Nat.testBit_succ, Nat.testBit_succ, e, e2, e3, Nat.testBit_and]
theorem and_le (k : Nat) : k &&& (k - 1) ≤ k := Nat.and_le_left
theorem lo_spec : ∀ n : Nat, 0 < n → ∃ v, n - (n &&& (n - 1)) = 2 ^ v ∧ n % 2 ^ v = 0 ∧ n % 2 ^ (v + 1) ≠ 0 := by
  intro n
  induction n using Nat.strongRecOn with
  | ind n ih =>
    intro h
    rcases Nat.mod_two_eq_zero_or_one n with e | e
    · have hk : 0 < n / 2 := by omega
      obtain ⟨v, h1, h2, h3⟩ := ih (n / 2) (by omega) hk
      have en : n = 2 * (n / 2) := by omega
      refine ⟨v + 1, ?_, ?_, ?_⟩
      · have := and_even (n / 2) hk
        rw [← en] at this
        have l := and_le (n / 2)
        rw [this, Nat.pow_succ, ← h1]; omega
      · rw [en, Nat.pow_succ, Nat.mul_comm (2 ^ v) 2, Nat.mul_mod_mul_left, h2]
      · rw [en, Nat.pow_succ, Nat.mul_comm (2 ^ (v + 1)) 2, Nat.mul_mod_mul_left]; omega
    · have en : n = 2 * (n / 2) + 1 := by omega
      refine ⟨0, ?_, by omega, by simpa using by omega⟩
      have := and_odd (n / 2)
      have e1 : n - 1 = 2 * (n / 2) := by omega
      rw [e1]
      have e2 : n &&& (2 * (n / 2)) = 2 * (n / 2) := by
        have : n &&& (2 * (n / 2)) = (2 * (n / 2) + 1) &&& (2 * (n / 2)) := by rw [← en]
        rw [this]; exact and_odd _
      rw [e2]; omega
/-- how many rounds a round goes back to -/
def cntB (n : Int) : Nat := Builtin.Int.intBits (Builtin.bitAnd n (-n))
theorem cntB_zero : cntB 0 = 0 := by decide
theorem cntB_pos {n : Int} (h : 0 < n) : ∃ v : Nat, cntB n = v + 1 ∧ n.toNat % 2 ^ v = 0 ∧ n.toNat % 2 ^ (v + 1) ≠ 0 := by
  obtain ⟨v, h1, h2, h3⟩ := lo_spec n.toNat (by omega)
  refine ⟨v, ?_, h2, h3⟩
  unfold cntB
  have e : Builtin.bitAnd n (-n) = ((2 ^ v : Nat) : Int) := by
    rw [PyProof.Rows.bitAnd_pn (by omega) (by omega)]
    have e1 : (Builtin.bitNot (-n)).toNat = n.toNat - 1 := by unfold Builtin.bitNot; omega
    have l := and_le n.toNat
    rw [e1]
    clear h2 h3
    generalize n.toNat &&& (n.toNat - 1) = c at *
    omega
  rw [e]
  unfold Builtin.Int.intBits
  have p : 0 < 2 ^ v := Nat.pow_pos (by decide)
  have ne : (((2 ^ v : Nat) : Int) == 0) = false := beq_eq_false_iff_ne.mpr (by omega)
  rw [ne]
  simp only [Bool.false_eq_true, if_false, Int.natAbs_natCast, Nat.log2_two_pow]
theorem dvd_iff {n v i : Nat} (h2 : n % 2 ^ v = 0) (h3 : n % 2 ^ (v + 1) ≠ 0) : n % 2 ^ i = 0 ↔ i ≤ v := by
  constructor
  · intro h
    by_cases hi : i ≤ v
    · exact hi
    · have d : 2 ^ (v + 1) ∣ n := Nat.dvd_trans (Nat.pow_dvd_pow 2 (by omega)) (Nat.dvd_of_mod_eq_zero h)
      exact absurd (Nat.mod_eq_zero_of_dvd d) h3
  · intro hi
    exact Nat.mod_eq_zero_of_dvd (Nat.dvd_trans (Nat.pow_dvd_pow 2 hi) (Nat.dvd_of_mod_eq_zero h2))
theorem cast_pow (i : Nat) : ((2 ^ i : Nat) : Int) = (2 : Int) ^ i := by simp
theorem cnt_lt {n : Int} (h : 0 ≤ n) (i : Nat) : i < cntB n ↔ (2 : Int) ^ i ≤ n ∧ n % 2 ^ i = 0 := by
  by_cases h0 : n = 0
  · subst h0
    rw [cntB_zero]
    have p : (0 : Int) < 2 ^ i := by rw [← cast_pow]; exact_mod_cast Nat.pow_pos (by decide)
    omega
  · obtain ⟨v, e, h2, h3⟩ := cntB_pos (n := n) (by omega)
    rw [e]
    have en : n = ((n.toNat : Nat) : Int) := by omega
    have em : n % 2 ^ i = ((n.toNat % 2 ^ i : Nat) : Int) := by
      conv => lhs; rw [en, ← cast_pow]
      exact (Int.natCast_emod _ _).symm
    constructor
    · intro hi
      have z := (dvd_iff h2 h3 (i := i)).mpr (by omega)
      have l : 2 ^ i ≤ n.toNat := Nat.le_of_dvd (by omega) (Nat.dvd_of_mod_eq_zero z)
      rw [em, z]
      refine ⟨?_, rfl⟩
      rw [en, ← cast_pow]; exact_mod_cast l
    · rintro ⟨_, hm⟩
      rw [em] at hm
      have := (dvd_iff h2 h3 (i := i)).mp (by omega)
      omega
theorem cnt_le {n : Int} {m : Nat} (h : 0 ≤ n) (hm : n < 2 ^ m) : cntB n ≤ m := by
  by_cases hc : m < cntB n
  · have := ((cnt_lt h m).mp hc).1
    omega
  · omega
/-- the rounds back -/
def bk (n : Int) : List Int := (List.range (cntB n)).map fun i => n - 2 ^ i
theorem bk_len (n : Int) : (bk n).length = cntB n := by unfold bk; rw [List.length_map, List.length_range]
def bkTo (n : Int) (i : Nat) : List Int := (List.range i).map fun i => n - 2 ^ i
theorem bkTo_succ (n : Int) (i : Nat) : bkTo n (i + 1) = bkTo n i ++ [n - 2 ^ i] := by unfold bkTo; rw [List.range_succ, List.map_append]; rfl
theorem bkTo_len (n : Int) (i : Nat) : (bkTo n i).length = i := by unfold bkTo; rw [List.length_map, List.length_range]
/-! things -/
def isThing (ns : List Int) : Bool :=
  if ns.length = 0 then false
  else if ns.getD 0 0 = 1 then decide (ns.length = 3)
  else if ns.getD 0 0 = 2 then decide (2 ≤ ns.length ∧ 2 + ns.getD 1 0 ≤ ns.length)
  else if ns.getD 0 0 = 4 then decide (6 ≤ ns.length ∧ 1 ≤ ns.getD 4 0 ∧ ns.length = 6 + cntB (ns.getD 2 0))
  else decide (ns.getD 0 0 = 5 ∧ ns.length = 2)
theorem at_getD {ns : List Int} (i : Nat) (h : i < ns.length) : atI (ns.map V.int) (i : Int) = some (.int (ns.getD i 0)) := by
  refine atI_nat ?_
  rw [List.getElem?_map, List.getElem?_eq_getElem h, List.getD_eq_getElem?_getD, List.getElem?_eq_getElem h]; rfl
/-! _law_cell -/
section
local macro_rules | `(tactic| wtm_at "d") => `(tactic| first | ((with_reducible show Z.XE _ (PySem.Expr.Call (PySem.Expr.Name "len" _) (_ :: _) [] _) _ _ _); refine Z.xe_callB (id := "len") (by assumption) (by wtm_at "m") T.b_len (by decide +kernel) ?_) | fail)
def sp_cell (K : PySem.W.Frag) : Sp := fun vs H Q _ => ∃ (a : Addr) (ns : List Int) (k : Int), vs = [.ref a, .int k] ∧ SqL K H a (ns.map V.int) ∧ 0 ≤ k ∧ ∀ v : Int, Q (.int v) H
theorem ok__law_cell (T : Txt P w K mg base) : DefOk P w K mg base "_law_cell" ["script", "k"] 1 (sp_cell K) := by
  refine DefOk.by T.d__law_cell sc__law_cell oc__law_cell (fun vs H Q E h => ?_) (fun X e1 e2 e3 e4 e5 C H vs Q E h => ?_)
  · obtain ⟨a, ns, k, rfl, _⟩ := h; rfl
  · obtain ⟨a, ns, k, rfl, hS, h0, q⟩ := h
    wtm_at "go"
    wtm_at "w"
    refine ite_d (fun h => ?_) (fun h => ?_)
    · rw [List.length_map] at h
      wtm_at "w"
      have hk : k.toNat < ns.length := by omega
      exact vx_lst hS (at_map h0 (List.getElem?_eq_getElem hk)) (q _)
    · wtm_at "w"
      exact q _
end
/-! _law_row -/
section
local macro_rules | `(tactic| wtm_at "d") => `(tactic| first | ((with_reducible show Z.XE _ (PySem.Expr.Call (PySem.Expr.Name "abs" _) (_ :: _) [] _) _ _ _); refine Z.xe_callB (id := "abs") (by assumption) (by wtm_at "m") T.b_abs (by decide +kernel) ?_) | ((with_reducible show Z.XE _ (PySem.Expr.Call (PySem.Expr.Name "int" _) (_ :: _) [] _) _ _ _); refine Z.xe_callTy (id := "int") (by assumption) (by wtm_at "m") T.b_int (by decide +kernel) ?_) | ((with_reducible show Z.XE _ (PySem.Expr.Name "int" _) _ _ _); refine Z.xe_ty (id := "int") (by assumption) (by wtm_at "m") T.b_int (by decide +kernel) ?_) | ((with_reducible show Z.XE _ (PySem.Expr.Call (PySem.Expr.Name "_law_cell" _) (_ :: _) [] _) _ _ _); refine Z.xe_call (by assumption) (Law.ok__law_cell T) (by wtm_at "m") (by omega) ?_) | fail)
def sp_row (K : PySem.W.Frag) : Sp := fun vs H Q _ => ∃ (a : Addr) (ns : List Int) (f l : Int), vs = [.ref a, .int f, .int l] ∧ SqL K H a (ns.map V.int) ∧ 0 ≤ f ∧ f ≤ 100 ∧ 0 ≤ l ∧ l ≤ 100 ∧
  ∀ p H' (rs : List Int), Kp [] H H' → H p = none → H' p = some (.lst (rs.map V.int)) → (∀ v ∈ rs, 0 ≤ v ∧ v < 840) → Q (.ref p) H'
/-- the row so far -/
def RowI (H H' : Hp) (r : Addr) (n : Nat) : Prop := H r = none ∧ Kp [] H H' ∧ ∃ rs : List Int, H' r = some (.lst (rs.map V.int)) ∧ rs.length ≤ n ∧ ∀ v ∈ rs, 0 ≤ v ∧ v < 840
theorem RowI.push {H H' H2 : Hp} {r : Addr} {n : Nat} {rs : List Int} {v : Int} (h : H r = none) (k1 : Kp [] H H') (e : H' r = some (.lst (rs.map V.int))) (hl : rs.length ≤ n) (hv : ∀ v ∈ rs, 0 ≤ v ∧ v < 840) (k2 : Kp [r] H' H2) (e2 : H2 r = some (.lst (rs.map V.int ++ [.int v]))) (h0 : 0 ≤ v ∧ v < 840) : RowI H H2 r (n + 1) := by
  refine ⟨h, k1.tr1 k2 (.inr h), rs ++ [v], ?_, ?_, ?_⟩
  · rw [e2, List.map_append]; rfl
  · rw [List.length_append]; simpa using hl
  · intro u hu
    rcases List.mem_append.mp hu with m | m
    · exact hv u m
    · rw [List.mem_singleton.mp m]; exact h0
theorem ok__law_row (T : Txt P w K mg base) : DefOk P w K mg base "_law_row" ["script", "first", "last"] 2 (sp_row K) := by
  refine DefOk.by T.d__law_row sc__law_row oc__law_row (fun vs H Q E h => ?_) (fun X e1 e2 e3 e4 e5 C H vs Q E h => ?_)
  · obtain ⟨a, ns, f, l, rfl, _⟩ := h; rfl
  · obtain ⟨a, ns, f, l, rfl, hS, f0, f1, l0, l1, q⟩ := h
    wtm_at "go"
    wtm_at "w"
    intro r H1 k1 nr hr
    wtm_at "w"
    refine xs_forR2 (by assumption) (by wtm_at "m") T.b_range ?_
    wtm_at "w"
    refine ⟨f, l, rfl, by omega, fun i σ H' => ∃ vk vc vt, σ = [some (.ref a), some (.int f), some (.int l), some (.ref r), vk, vc, vt] ∧ RowI H H' r (60 * i), ⟨none, none, none, rfl, nr, k1, [], hr, Nat.le_refl _, by simp⟩, ?_, ?_⟩
    · rintro i σ' H2 hi ⟨vk, vc, vt, rfl, n2, k2, rs, e2, len2, hv2⟩
      have hS2 : SqL X.K H2 a (ns.map V.int) := k2.lst0 hS
      wtm_at "w"
      refine ⟨a, ns, f + i, rfl, hS2, by omega, fun c => ?_⟩
      wtm_at "w"
      refine vo_mul (cmulL ⟨by decide, by decide⟩) ?_
      wtm_at "w"
      generalize hc : ((if 2 * c < 0 then -(2 * c) else 2 * c) + if decide (c < 0) = true then 1 else 0 : Int) = c'
      refine vo_pow ⟨by decide, by decide, by decide⟩ ?_
      wtm_at "w"
      refine ite_d (fun h => ?_) (fun h => ?_)
      · wtm_at "w"
        refine xs_forR1 (by assumption) (by wtm_at "m") T.b_range ?_
        wtm_at "w"
        refine ⟨60, rfl, by decide, by decide, fun t σ H' => ∃ vk, ∃ c : Int, ∃ vt, σ = [some (.ref a), some (.int f), some (.int l), some (.ref r), vk, some (.int c), vt] ∧ RowI H H' r (60 * i + t), ⟨_, _, _, rfl, n2, k2, rs, e2, by omega, hv2⟩, ?_, ?_⟩
        · rintro t σ' H3 ht ⟨vk, d, vt, rfl, n3, k3, rs3, e3, len3, hv3⟩
          have ht' : t < 60 := ht
          have hi' : i < 100 := by omega
          wtm_at "w"
          refine ite_d (fun h => ?_) (fun h => ?_)
          · wtm_at "w"
            refine ⟨e3, szl (by rw [List.length_map]; omega), fun H4 k4 e4 => ?_⟩
            wtm_at "w"
            exact ⟨_, _, _, rfl, RowI.push n3 k3 e3 len3 hv3 k4 e4 ⟨Int.emod_nonneg _ (by decide), Int.emod_lt_of_pos _ (by decide)⟩⟩
          · wtm_at "w"
            exact ⟨_, _, _, rfl, n3, k3, rs3, e3, by omega, hv3⟩
        · rintro σ' H3 ⟨vk, d, vt, rfl, n3, k3, rs3, e3, len3, hv3⟩
          wtm_at "w"
          have len3' : rs3.length ≤ 60 * i + 60 := len3
          exact ⟨_, _, _, rfl, n3, k3, rs3, e3, by omega, hv3⟩
      · wtm_at "w"
        refine xs_forR1 (by assumption) (by wtm_at "m") T.b_range ?_
        wtm_at "w"
        refine ⟨10, rfl, by decide, by decide, fun t σ H' => ∃ vt, ∃ c : Int, σ = [some (.ref a), some (.int f), some (.int l), some (.ref r), some (.int (f + i)), some (.int c), vt] ∧ RowI H H' r (60 * i + t), ⟨_, _, rfl, n2, k2, rs, e2, by omega, hv2⟩, ?_, ?_⟩
        · rintro t σ' H3 ht ⟨vt, d, rfl, n3, k3, rs3, e3, len3, hv3⟩
          have ht' : t < 10 := ht
          have hi' : i < 100 := by omega
          wtm_at "w"
          refine vo_mul (cmulR ⟨by decide, by decide⟩) ?_
          wtm_at "w"
          refine vo_mul (cmulL ⟨by decide, by decide⟩) ?_
          wtm_at "w"
          refine ⟨e3, szl (by rw [List.length_map]; omega), fun H4 k4 e4 => ?_⟩
          wtm_at "w"
          exact ⟨_, _, rfl, RowI.push n3 k3 e3 len3 hv3 k4 e4 ⟨Int.emod_nonneg _ (by decide), Int.emod_lt_of_pos _ (by decide)⟩⟩
        · rintro σ' H3 ⟨vt, d, rfl, n3, k3, rs3, e3, len3, hv3⟩
          wtm_at "w"
          have len3' : rs3.length ≤ 60 * i + 10 := len3
          exact ⟨_, _, _, rfl, n3, k3, rs3, e3, by omega, hv3⟩
    · rintro σ' H2 ⟨vk, vc, vt, rfl, n2, k2, rs, e2, len2, hv2⟩
      wtm_at "w"
      exact q _ _ rs k2 n2 e2 hv2
end
/-! _law_draw -/
section
local macro_rules | `(tactic| wtm_at "d") => `(tactic| first | ((with_reducible show Z.XE _ (PySem.Expr.Call (PySem.Expr.Name "int" _) (_ :: _) [] _) _ _ _); refine Z.xe_callTy (id := "int") (by assumption) (by wtm_at "m") T.b_int (by decide +kernel) ?_) | ((with_reducible show Z.XE _ (PySem.Expr.Name "int" _) _ _ _); refine Z.xe_ty (id := "int") (by assumption) (by wtm_at "m") T.b_int (by decide +kernel) ?_) | ((with_reducible show Z.XE _ (PySem.Expr.Call (PySem.Expr.Name "len" _) (_ :: _) [] _) _ _ _); refine Z.xe_callB (id := "len") (by assumption) (by wtm_at "m") T.b_len (by decide +kernel) ?_) | fail)
def sp_draw : Sp := fun vs H Q _ => ∃ (b r : Addr) (m : Int), vs = [.ref b, .int m] ∧ Box H b r ∧ 0 < m ∧ ∀ (v : Int) H', 0 ≤ v → v < m → Kp [b] H H' → Box H' b r → Q (.int v) H'
theorem ok__law_draw (T : Txt P w K mg base) : DefOk P w K mg base "_law_draw" ["box", "many"] 1 sp_draw := by
  refine DefOk.by T.d__law_draw sc__law_draw oc__law_draw (fun vs H Q E h => ?_) (fun X e1 e2 e3 e4 e5 C H vs Q E h => ?_)
  · obtain ⟨b, r, m, rfl, _⟩ := h; rfl
  · obtain ⟨b, r, m, rfl, bx, hm, q⟩ := h
    have nbr := bx.br
    obtain ⟨i, ns, h1, h2, h3⟩ := bx
    wtm_at "go"
    wtm_at "w"
    refine xs_setIx ?_
    wtm_at "w"
    refine ⟨b, _, 1, 1, rfl, rfl, h1, ix1, fun H2 k2 e2 => ?_⟩
    have e2 : H2 b = some (.lst [.ref r, .int (i + 1)]) := e2
    have h3' : H2 r = some (.lst (ns.map V.int)) := k2.at1 nbr h3
    have hB : Box H2 b r := ⟨i + 1, ns, e2, by omega, h3'⟩
    wtm_at "w"
    refine ite_d (fun h => ?_) (fun h => ?_)
    · rw [List.length_map] at h
      wtm_at "w"
      have hk : i.toNat < ns.length := by omega
      refine vx_lst (Z.SqL.of' h3') (at_map h2 (List.getElem?_eq_getElem hk)) ?_
      wtm_at "w"
      refine vo_mod hm ?_
      exact q _ _ (Int.emod_nonneg _ (by omega)) (Int.emod_lt_of_pos _ hm) k2 hB
    · wtm_at "w"
      refine vo_mul (cmulR ⟨by decide, by decide⟩) ?_
      wtm_at "w"
      refine vo_mod hm ?_
      exact q _ _ (Int.emod_nonneg _ (by omega)) (Int.emod_lt_of_pos _ hm) k2 hB
end
/-! prime -/
def PR : Int := 2305843009213693951
/-! digests -/
/-! what a digest is -/
def mixS (f s n : Int) : Int := (s * f + n + 1) % PR
def mixF (f : Int) (ns : List Int) (s : Int) : Int := ns.foldl (mixS f) s
def dig (b f : Int) (ns : List Int) : Int := (mixF f (ns.length :: ns) 1 * 48271 + mixF f (ns.length :: ns) 1 / 65536) % b
theorem mixS_rng (f s n : Int) : 0 ≤ mixS f s n ∧ mixS f s n < PR := ⟨Int.emod_nonneg _ (by decide), Int.emod_lt_of_pos _ (by decide)⟩
theorem mixF_snoc (f : Int) (ns : List Int) (n s : Int) : mixF f (ns ++ [n]) s = mixS f (mixF f ns s) n := by unfold mixF; rw [List.foldl_append]; rfl
theorem mixF_take {f s n : Int} {ns : List Int} {i : Nat} (h : ns[i]? = some n) : mixF f (ns.take (i + 1)) s = mixS f (mixF f (ns.take i) s) n := by
  rw [List.take_add_one, h]; exact mixF_snoc _ _ _ _
theorem mixF_rng {f : Int} : ∀ (ns : List Int) (s : Int), 0 ≤ s → s < PR → 0 ≤ mixF f ns s ∧ mixF f ns s < PR
  | [], s, h0, h1 => ⟨h0, h1⟩
  | n :: ns, s, _, _ => mixF_rng ns (mixS f s n) (mixS_rng f s n).1 (mixS_rng f s n).2
theorem mulP {s : Int} (h0 : 0 ≤ s) (h1 : s < PR) : -(2 ^ 64) < s ∧ s < 2 ^ 64 := by unfold PR at h1; omega
theorem dig_rng {b f : Int} {ns : List Int} (hb : 0 < b) : 0 ≤ dig b f ns ∧ dig b f ns < b := ⟨Int.emod_nonneg _ (by omega), Int.emod_lt_of_pos _ hb⟩
/-- a mixing at p -/
def mxF (b f : Int) : List (Str × V) := putF "factor" (.int f) (putF "bound" (.int b) [])
theorem mx_b (b f : Int) : (mxF b f).lookup ("bound" : Str) = some (.int b) := by
  unfold mxF; rw [lookup_putF, if_neg (by decide +kernel), lookup_putF, if_pos rfl]
theorem mx_f (b f : Int) : (mxF b f).lookup ("factor" : Str) = some (.int f) := by
  unfold mxF; rw [lookup_putF, if_pos rfl]
def Mx (C : Addr) (H : Hp) (p : Addr) (b f : Int) : Prop := ∃ dx, H p = some (.ins C dx (mxF b f))
theorem Mx.kp {C p : Addr} {H H' : Hp} {b f : Int} (h : Mx C H p b f) (k : Kp [] H H') : Mx C H' p b f := by
  obtain ⟨dx, h⟩ := h
  exact ⟨dx, k.at0 h⟩
theorem Mx.kp1 {C p l : Addr} {H H' : Hp} {b f : Int} {xs : List V} (h : Mx C H p b f) (k : Kp [l] H H') (hl : H l = some (.lst xs)) : Mx C H' p b f := by
  obtain ⟨dx, h⟩ := h
  refine ⟨dx, k.at (fun m => ?_) h⟩
  rw [List.mem_singleton.mp m, hl] at h; cases h
theorem Mx.box {C p b' r : Addr} {H H' : Hp} {b f : Int} (h : Mx C H p b f) (bx : Box H b' r) (k : Kp [b'] H H') : Mx C H' p b f := by
  obtain ⟨dx, h⟩ := h
  exact ⟨dx, bx.other k (fun _ e => nomatch e) h⟩
theorem Mx.new {C p l : Addr} {H H' : Hp} {b f : Int} (h : Mx C H p b f) (n : p ≠ l) (k : Kp [l] H H') : Mx C H' p b f := by
  obtain ⟨dx, h⟩ := h
  exact ⟨dx, k.at1 n h⟩
theorem Mx.nl {C p l : Addr} {H : Hp} {b f : Int} (h : Mx C H p b f) (n : H l = none) : p ≠ l := by
  obtain ⟨dx, h⟩ := h
  exact ne_of_none h n
/-! carm -/
section
variable {H H' : Hp} {b r : Addr}
instance {C p : Addr} {n f : Int} : Car H H' (Mx C H p n f) (Mx C H' p n f) := ⟨fun k nn ⟨dx, h⟩ => ⟨dx, k.atN nn h⟩⟩
instance {C p : Addr} {n f : Int} : CarB b r H H' (Mx C H p n f) (Mx C H' p n f) := ⟨fun bx k h => h.box bx k⟩
end
/-! Mixing -/
section
local macro_rules | `(tactic| wtm_at "d") => `(tactic| fail)
def sp_Mixing (C : Addr) : Sp := fun vs H Q _ => ∃ (z dx : Addr) (b f : Int), vs = [.ref z, .int b, .int f] ∧ H z = some (.ins C dx []) ∧ ∀ H', Kp [z] H H' → Mx C H' z b f → Q .non H'
theorem ok_Mixing (T : Txt P w K mg base) : ClsOk P w K mg base "Mixing" T.C_Mixing ["self", "bound", "factor"] 1 (sp_Mixing T.C_Mixing) := by
  obtain ⟨f, fd, M, F, b⟩ := T.mk_Mixing
  refine ⟨f, fd, fnOk_by F sc_Mixing___init__ oc_Mixing___init__ (fun vs H Q E h => ?_) (fun X e1 e2 e3 e4 e5 C H vs Q E h => ?_), T.mg_Mixing, M, b⟩
  · obtain ⟨z, dx, b, f, rfl, _⟩ := h; rfl
  · obtain ⟨z, dx, b, f, rfl, h1, q⟩ := h
    wtm_at "go"
    refine xs_fld ?_
    wtm_at "w"
    refine ⟨z, _, dx, _, rfl, h1, T.cl_Mixing, T.na_Mixing_bound, by decide, fun H1 k1 e1 => ?_⟩
    wtm_at "w"
    refine xs_fld ?_
    wtm_at "w"
    refine ⟨z, _, dx, _, rfl, e1, T.cl_Mixing, T.na_Mixing_factor, by show 1 < 1000; decide, fun H2 k2 e2 => ?_⟩
    wtm_at "w"
    exact q H2 (k1.tr1 k2 (.inl (by simp))) ⟨dx, e2⟩
end
/-! _mixed -/
section
local macro_rules | `(tactic| wtm_at "d") => `(tactic| first | ((with_reducible show Z.XE _ (PySem.Expr.Name "PRIME" _) _ _ _); refine Z.xe_glob (v := L2.V.int 2305843009213693951) (by assumption) (by wtm_at "m") T.c_PRIME.choose_spec ⟨_, rfl⟩ ?_) | fail)
def sp_mixed (C : Addr) : Sp := fun vs H Q _ => ∃ (p : Addr) (b f s n : Int), vs = [.ref p, .int s, .int n] ∧ Mx C H p b f ∧ 0 ≤ s ∧ s < PR ∧ Q (.int (mixS f s n)) H
theorem ok__mixed (T : Txt P w K mg base) : DefOk P w K mg base "_mixed" ["mixing", "state", "number"] 1 (sp_mixed T.C_Mixing) := by
  refine DefOk.by T.d__mixed sc__mixed oc__mixed (fun vs H Q E h => ?_) (fun X e1 e2 e3 e4 e5 C H vs Q E h => ?_)
  · obtain ⟨p, b, f, s, n, rfl, _⟩ := h; rfl
  · obtain ⟨p, b, f, s, n, rfl, ⟨dx, hp⟩, h0, h1, q⟩ := h
    wtm_at "go"
    wtm_at "w"
    refine xe_fld ?_
    wtm_at "w"
    refine ⟨p, _, dx, _, _, rfl, hp, T.cl_Mixing, T.na_Mixing_factor, mx_f b f, ?_⟩
    refine vo_mul (cmulL (mulP h0 h1)) ?_
    wtm_at "w"
    exact q
end
/-! digest -/
section
local macro_rules | `(tactic| wtm_at "d") => `(tactic| first | ((with_reducible show Z.XE _ (PySem.Expr.Call (PySem.Expr.Name "len" _) (_ :: _) [] _) _ _ _); refine Z.xe_callB (id := "len") (by assumption) (by wtm_at "m") T.b_len (by decide +kernel) ?_) | ((with_reducible show Z.XE _ (PySem.Expr.Call (PySem.Expr.Name "_mixed" _) (_ :: _) [] _) _ _ _); refine Z.xe_call (by assumption) (Law.ok__mixed T) (by wtm_at "m") (by omega) ?_) | fail)
def sp_digest (K : PySem.W.Frag) (C : Addr) : Sp := fun vs H Q _ => ∃ (p r : Addr) (b f : Int) (ns : List Int), vs = [.ref p, .ref r] ∧ Mx C H p b f ∧ SqT K H r (ns.map V.int) ∧ 0 < b ∧ Q (.int (dig b f ns)) H
theorem ok_digest (T : Txt P w K mg base) : DefOk P w K mg base "digest" ["mixing", "row"] 2 (sp_digest K T.C_Mixing) := by
  refine DefOk.by T.d_digest sc_digest oc_digest (fun vs H Q E h => ?_) (fun X e1 e2 e3 e4 e5 C H vs Q E h => ?_)
  · obtain ⟨p, r, b, f, ns, rfl, _⟩ := h; rfl
  · obtain ⟨p, r, b, f, ns, rfl, hm, hr, hb, q⟩ := h
    wtm_at "go"
    wtm_at "w"
    refine ⟨p, b, f, 1, _, rfl, hm, by decide, by decide, ?_⟩
    wtm_at "w"
    refine xs_forT (by assumption) ?_
    wtm_at "w"
    have s0 := mixS_rng f 1 ((ns.map V.int).length : Int)
    refine ⟨r, _, rfl, hr, fun i σ H' => ∃ vn, σ = [some (.ref p), some (.ref r), some (.int (mixF f (ns.take i) (mixS f 1 ((ns.map V.int).length : Int)))), vn] ∧ H' = H, ⟨none, rfl, rfl⟩, ?_, ?_, ?_⟩
    · rintro i σ' H' hi ⟨vn, rfl, rfl⟩
      exact hr
    · rintro i y σ' H' hy ⟨vn, rfl, rfl⟩
      obtain ⟨n, hn, rfl⟩ := map_at hy
      have s1 := mixF_rng (f := f) (ns.take i) _ s0.1 s0.2
      wtm_at "w"
      refine ⟨p, b, f, _, n, rfl, hm, s1.1, s1.2, ?_⟩
      wtm_at "w"
      exact ⟨_, by rw [mixF_take hn], rfl⟩
    · rintro σ' H' ⟨vn, rfl, rfl⟩
      have e : (ns.take (ns.map V.int).length) = ns := by rw [List.length_map]; exact List.take_length
      rw [e]
      have s1 := mixF_rng (f := f) ns _ s0.1 s0.2
      wtm_at "w"
      refine vo_mul (cmulR ⟨by decide, by decide⟩) ?_
      wtm_at "w"
      refine xe_fld ?_
      wtm_at "w"
      obtain ⟨dx, hp⟩ := hm
      refine ⟨p, _, dx, _, _, rfl, hp, T.cl_Mixing, T.na_Mixing_bound, mx_b b f, ?_⟩
      refine vo_mod hb ?_
      have e2 : mixF f ns (mixS f 1 ((ns.map V.int).length : Int)) = mixF f (ns.length :: ns) 1 := by rw [List.length_map]; rfl
      rw [e2]
      exact q
end
/-! digest_of -/
section
local macro_rules | `(tactic| wtm_at "d") => `(tactic| first | ((with_reducible show Z.XE _ (PySem.Expr.Call (PySem.Expr.Name "digest" _) (_ :: _) [] _) _ _ _); refine Z.xe_call (by assumption) (Law.ok_digest T) (by wtm_at "m") (by omega) ?_) | fail)
theorem ok_digest_of (T : Txt P w K mg base) : DefOk P w K mg base "digest_of" ["mixing", "row"] 3 (sp_digest K T.C_Mixing) := by
  refine DefOk.by T.d_digest_of sc_digest_of oc_digest_of (fun vs H Q E h => ?_) (fun X e1 e2 e3 e4 e5 C H vs Q E h => ?_)
  · obtain ⟨p, r, b, f, ns, rfl, _⟩ := h; rfl
  · obtain ⟨p, r, b, f, ns, rfl, hm, hr, hb, q⟩ := h
    wtm_at "go"
    wtm_at "w"
    exact ⟨p, r, b, f, ns, rfl, hm, hr, hb, q⟩
end
/-! seqs -/
theorem map_at_bl {bs : List Bool} {i : Nat} {y : V} (h : (bs.map V.bl)[i]? = some y) : ∃ n, bs[i]? = some n ∧ y = .bl n := by
  rw [List.getElem?_map] at h
  cases e : bs[i]? with
  | none => rw [e] at h; cases h
  | some n => rw [e] at h; exact ⟨n, rfl, (Option.some.inj h).symm⟩
theorem drop_at {α : Type} {l : List α} {t : Nat} {x : α} (h : l[t]? = some x) : l.drop t = x :: l.drop (t + 1) := by
  obtain ⟨h1, h2⟩ := List.getElem?_eq_some_iff.mp h
  rw [List.drop_eq_getElem_cons h1, h2]
theorem at_nat {α : Type} {xs : List α} {t : Nat} {y : α} (h : xs[t]? = some y) : atI xs (t : Int) = some y := by
  have hi := (List.getElem?_eq_some_iff.mp h).1
  unfold atI ixN
  rw [if_pos (by omega), if_pos (by omega)]
  exact h
theorem at_getLast {α : Type} {xs : List α} {v : α} (h : xs.getLast? = some v) : atI xs (-1) = some v := by
  have l : 0 < xs.length := by
    cases xs with
    | nil => cases h
    | cons x xs => simp
  unfold atI ixN
  rw [if_neg (by decide), if_pos (by omega)]
  rw [List.getLast?_eq_getElem?] at h
  simp only [Option.bind]
  rw [← h]
  congr 1
  omega
theorem at_map_nat {ns : List Int} {i : Nat} {x : Int} (h : ns[i]? = some x) : atI (ns.map V.int) (i : Int) = some (.int x) := at_nat (by rw [List.getElem?_map, h]; rfl)
/-! trees -/
/-! where entries part -/
def hf (n : Nat) : Nat := 2 ^ (n - 1).log2
theorem hf_pos (n : Nat) : 0 < hf n := Nat.pow_pos (by decide)
theorem hf_lt {n : Nat} (h : 2 ≤ n) : hf n < n := by
  have := Nat.log2_self_le (n := n - 1) (by omega)
  unfold hf; omega
theorem hf_ge (n : Nat) : n ≤ 2 * hf n := by
  have := Nat.lt_log2_self (n := n - 1)
  unfold hf
  rw [Nat.pow_succ] at this; omega
theorem hf_le {n d : Nat} (h : 2 ≤ n) (hd : n ≤ 2 ^ (d + 1)) : hf n ≤ 2 ^ d := by
  have h1 := hf_lt h
  unfold hf at h1 ⊢
  refine Nat.pow_le_pow_right (by decide) ?_
  have : (n - 1).log2 < d + 1 := (Nat.pow_lt_pow_iff_right (a := 2) (by decide)).mp (by omega)
  omega
theorem rest_le {n d : Nat} (h : 2 ≤ n) (hd : n ≤ 2 ^ (d + 1)) : n - hf n ≤ 2 ^ d := by
  have := hf_le h hd
  have := hf_ge n
  omega
/-- the root of entries -/
def rt (b f : Int) (es : List Int) : Int :=
  if h : 2 ≤ es.length then dig b f [3, rt b f (es.take (hf es.length)), rt b f (es.drop (hf es.length))] else es.headD 0
termination_by es.length
decreasing_by
  · rw [List.length_take]; have := hf_lt h; omega
  · rw [List.length_drop]; have := hf_pos es.length; omega
theorem rt_two {b f : Int} {es : List Int} (h : 2 ≤ es.length) : rt b f es = dig b f [3, rt b f (es.take (hf es.length)), rt b f (es.drop (hf es.length))] := by rw [rt, dif_pos h]
theorem rt_one {b f : Int} {es : List Int} (h : ¬ 2 ≤ es.length) : rt b f es = es.headD 0 := by rw [rt, dif_neg h]
/-- the nodes within, each ahead of those of its parts -/
def nds (b f : Int) (es : List Int) : List (List Int) :=
  if h : 2 ≤ es.length then [3, rt b f (es.take (hf es.length)), rt b f (es.drop (hf es.length))] :: (nds b f (es.take (hf es.length)) ++ nds b f (es.drop (hf es.length))) else []
termination_by es.length
decreasing_by
  · rw [List.length_take]; have := hf_lt h; omega
  · rw [List.length_drop]; have := hf_pos es.length; omega
theorem nds_two {b f : Int} {es : List Int} (h : 2 ≤ es.length) : nds b f es = [3, rt b f (es.take (hf es.length)), rt b f (es.drop (hf es.length))] :: (nds b f (es.take (hf es.length)) ++ nds b f (es.drop (hf es.length))) := by rw [nds, dif_pos h]
theorem nds_one {b f : Int} {es : List Int} (h : ¬ 2 ≤ es.length) : nds b f es = [] := by rw [nds, dif_neg h]
theorem nds_len (b f : Int) : ∀ (d : Nat) (es : List Int), es.length ≤ d → 1 ≤ es.length → (nds b f es).length + 1 = es.length
  | 0, es, h, h1 => by omega
  | d + 1, es, h, h1 => by
    by_cases h2 : 2 ≤ es.length
    · have a := hf_lt h2
      have p := hf_pos es.length
      have i1 := nds_len b f d (es.take (hf es.length)) (by rw [List.length_take]; omega) (by rw [List.length_take]; omega)
      have i2 := nds_len b f d (es.drop (hf es.length)) (by rw [List.length_drop]; omega) (by rw [List.length_drop]; omega)
      rw [List.length_take] at i1
      rw [List.length_drop] at i2
      rw [nds_two h2, List.length_cons, List.length_append]
      omega
    · rw [nds_one h2]; simp; omega
/-- the turns of an index, from the entry up -/
def tn (c i : Nat) : List Bool :=
  if h : 2 ≤ c then (if i < hf c then tn (hf c) i ++ [false] else tn (c - hf c) (i - hf c) ++ [true]) else []
termination_by c
decreasing_by
  · exact hf_lt h
  · have := hf_pos c; omega
theorem tn_lo {c i : Nat} (h : 2 ≤ c) (hi : i < hf c) : tn c i = tn (hf c) i ++ [false] := by rw [tn, dif_pos h, if_pos hi]
theorem tn_hi {c i : Nat} (h : 2 ≤ c) (hi : ¬ i < hf c) : tn c i = tn (c - hf c) (i - hf c) ++ [true] := by rw [tn, dif_pos h, if_neg hi]
theorem tn_one {c i : Nat} (h : ¬ 2 ≤ c) : tn c i = [] := by rw [tn, dif_neg h]
theorem tn_len : ∀ (d c i : Nat), c ≤ 2 ^ d → (tn c i).length ≤ d
  | 0, c, i, h => by rw [tn_one (by simp at h; omega)]; simp
  | d + 1, c, i, h => by
    by_cases h2 : 2 ≤ c
    · by_cases hi : i < hf c
      · have := tn_len d (hf c) i (hf_le h2 h)
        rw [tn_lo h2 hi, List.length_append]; simp; omega
      · have := tn_len d (c - hf c) (i - hf c) (rest_le h2 h)
        rw [tn_hi h2 hi, List.length_append]; simp; omega
    · rw [tn_one h2]; simp
/-- the way of an index -/
def wy (b f : Int) (es : List Int) (i : Nat) : List Int :=
  if h : 2 ≤ es.length then (if i < hf es.length then wy b f (es.take (hf es.length)) i ++ [rt b f (es.drop (hf es.length))] else wy b f (es.drop (hf es.length)) (i - hf es.length) ++ [rt b f (es.take (hf es.length))]) else []
termination_by es.length
decreasing_by
  · rw [List.length_take]; have := hf_lt h; omega
  · rw [List.length_drop]; have := hf_pos es.length; omega
theorem wy_lo {b f : Int} {es : List Int} {i : Nat} (h : 2 ≤ es.length) (hi : i < hf es.length) : wy b f es i = wy b f (es.take (hf es.length)) i ++ [rt b f (es.drop (hf es.length))] := by rw [wy, dif_pos h, if_pos hi]
theorem wy_hi {b f : Int} {es : List Int} {i : Nat} (h : 2 ≤ es.length) (hi : ¬ i < hf es.length) : wy b f es i = wy b f (es.drop (hf es.length)) (i - hf es.length) ++ [rt b f (es.take (hf es.length))] := by rw [wy, dif_pos h, if_neg hi]
theorem wy_one {b f : Int} {es : List Int} {i : Nat} (h : ¬ 2 ≤ es.length) : wy b f es i = [] := by rw [wy, dif_neg h]
theorem wy_len (b f : Int) : ∀ (d : Nat) (es : List Int) (i : Nat), es.length ≤ d → (wy b f es i).length = (tn es.length i).length
  | 0, es, i, h => by rw [wy_one (by omega), tn_one (by omega)]; rfl
  | d + 1, es, i, h => by
    by_cases h2 : 2 ≤ es.length
    · have a := hf_lt h2
      have p := hf_pos es.length
      have lt : (es.take (hf es.length)).length = hf es.length := by rw [List.length_take]; omega
      have ld : (es.drop (hf es.length)).length = es.length - hf es.length := by rw [List.length_drop]
      by_cases hi : i < hf es.length
      · have := wy_len b f d (es.take (hf es.length)) i (by omega)
        rw [wy_lo h2 hi, tn_lo h2 hi, List.length_append, List.length_append, this, lt]; rfl
      · have := wy_len b f d (es.drop (hf es.length)) (i - hf es.length) (by omega)
        rw [wy_hi h2 hi, tn_hi h2 hi, List.length_append, List.length_append, this, ld]; rfl
    · rw [wy_one h2, tn_one h2]; rfl
/-- slices by numbers -/
theorem cut_take (xs : List V) (k : Nat) (h : k ≤ xs.length) : cutV xs none (some (k : Int)) = xs.take k := by
  unfold cutV
  rw [HT.sIx_none, HT.sIx_nat, Nat.min_eq_left h]; simp
theorem cut_drop (xs : List V) (k : Nat) (h : k ≤ xs.length) : cutV xs (some (k : Int)) none = xs.drop k := by
  unfold cutV
  rw [HT.sIx_none, HT.sIx_nat, Nat.min_eq_left h]
  exact List.take_of_length_le (by rw [List.length_drop]; omega)
theorem bits_log {n : Nat} (h : 0 < n) : Builtin.Int.intBits (n : Int) = n.log2 + 1 := by
  unfold Builtin.Int.intBits
  have ne : ((n : Int) == 0) = false := beq_eq_false_iff_ne.mpr (by omega)
  rw [ne]
  simp
/-! tups -/
/-- rows that are tuples of these ints -/
def TupsAt (K : PySem.W.Frag) (H : Hp) (vs : List V) (nss : List (List Int)) : Prop := DpAll K H vs (nss.map fun ns => PyData.tuple (ns.map PyData.int))
theorem dpAll_app {K : PySem.W.Frag} {H : Hp} : ∀ {vs us : List V} {ds es : List PyData}, DpAll K H vs ds → DpAll K H us es → DpAll K H (vs ++ us) (ds ++ es)
  | _, _, _, _, .nil, b => b
  | _, _, _, _, .cons h a, b => .cons h (dpAll_app a b)
theorem TupsAt.app {K : PySem.W.Frag} {H : Hp} {vs us : List V} {a b : List (List Int)} (h : TupsAt K H vs a) (g : TupsAt K H us b) : TupsAt K H (vs ++ us) (a ++ b) := by
  unfold TupsAt
  rw [List.map_append]
  exact dpAll_app h g
theorem TupsAt.kp {K : PySem.W.Frag} {H H' : Hp} {vs : List V} {a : List (List Int)} (h : TupsAt K H vs a) (k : Kp [] H H') : TupsAt K H' vs a := dpAll_kp k h
theorem TupsAt.len {K : PySem.W.Frag} {H : Hp} {vs : List V} {a : List (List Int)} (h : TupsAt K H vs a) : vs.length = a.length := by
  have := dpAll_len h
  rw [this, List.length_map]
theorem len_take {es : List Int} (h : 2 ≤ es.length) : (es.take (hf es.length)).length = hf es.length := by
  have := hf_lt h
  rw [List.length_take]; omega
theorem dpAll_intsInv {K : PySem.W.Frag} {H : Hp} : ∀ {ns : List Int} {vs : List V}, DpAll K H vs (ns.map PyData.int) → vs = ns.map V.int
  | [], _, .nil => rfl
  | n :: ns, _, .cons h a => by
    cases h
    rw [dpAll_intsInv a]; rfl
theorem dp_Tinv {K : PySem.W.Frag} {H : Hp} {v : V} {ns : List Int} (h : Dp K H v (.tuple (ns.map PyData.int))) : ∃ p, v = .ref p ∧ SqT K H p (ns.map V.int) := by
  cases h with
  | tup hx a => exact ⟨_, rfl, by rw [← dpAll_intsInv a]; exact hx⟩
theorem TupsAt.at {K : PySem.W.Frag} {H : Hp} {vs : List V} {nss : List (List Int)} {i : Nat} {v : V} (h : TupsAt K H vs nss) (hv : vs[i]? = some v) : ∃ ns p, nss[i]? = some ns ∧ v = .ref p ∧ SqT K H p (ns.map V.int) := by
  have hi : i < vs.length := (List.getElem?_eq_some_iff.mp hv).1
  have hl := h.len
  have hn : nss[i]? = some nss[i] := List.getElem?_eq_getElem (by omega)
  obtain ⟨v', h1, h2⟩ := dpAll_at h (i := i) (d := .tuple (nss[i].map PyData.int)) (by rw [List.getElem?_map, hn]; rfl)
  rw [hv] at h1
  cases h1
  obtain ⟨p, e, hp⟩ := dp_Tinv h2
  exact ⟨_, p, hn, e, hp⟩
theorem TupsAt.kpA {K : PySem.W.Frag} {H H' : Hp} {A : List Addr} (k : Kp A H H') : ∀ {a : List (List Int)} {vs : List V}, TupsAt K H vs a → TupsAt K H' vs a
  | [], _, .nil => .nil
  | n :: ns, _, .cons h a => by
    obtain ⟨p, rfl, hp⟩ := dp_Tinv h
    exact .cons (dp_T (k.tup hp)) (TupsAt.kpA k a)
/-! climbs -/
/-! a digest and a way climb -/
def nodeOf (s : Bool) (e w : Int) : List Int := if s = true then [3, w, e] else [3, e, w]
def nup (b f : Int) : List Bool → Int → List Int → List (List Int)
  | s :: ss, e, w :: ws => nodeOf s e w :: nup b f ss (dig b f (nodeOf s e w)) ws
  | _, _, _ => []
def cl (b f : Int) : List Bool → Int → List Int → Int
  | s :: ss, e, w :: ws => cl b f ss (dig b f (nodeOf s e w)) ws
  | _, e, _ => e
theorem nodeOf_len (s : Bool) (e w : Int) : (nodeOf s e w).length = 3 := by cases s <;> rfl
theorem nup_nil {b f e : Int} {ws : List Int} : nup b f [] e ws = [] := by simp [nup]
theorem cl_nil {b f e : Int} {ws : List Int} : cl b f [] e ws = e := by simp [cl]
theorem nup_len (b f : Int) : ∀ (ss : List Bool) (e : Int) (ws : List Int), ss.length = ws.length → (nup b f ss e ws).length = ss.length
  | [], e, ws, _ => by rw [nup_nil]; rfl
  | s :: ss, e, [], h => nomatch h
  | s :: ss, e, w :: ws, h => by
    rw [nup, List.length_cons, List.length_cons, nup_len b f ss _ ws (Nat.succ.inj h)]
/-- the last node's digest is the root -/
theorem cl_last (b f : Int) : ∀ (ss : List Bool) (e : Int) (ws : List Int) (n : List Int), (nup b f ss e ws).getLast? = some n → cl b f ss e ws = dig b f n
  | [], e, ws, n, h => by rw [nup_nil] at h; cases h
  | s :: ss, e, [], n, h => by simp [nup] at h
  | s :: ss, e, w :: ws, n, h => by
    rw [nup, List.getLast?_cons] at h
    rw [cl]
    cases g : (nup b f ss (dig b f (nodeOf s e w)) ws).getLast? with
    | some m =>
      rw [g] at h
      rw [cl_last b f ss _ ws m g]
      exact congrArg _ (Option.some.inj h)
    | none =>
      rw [g] at h
      have e1 : nodeOf s e w = n := Option.some.inj h
      have e2 := List.getLast?_eq_none_iff.mp g
      rw [← e1]
      cases ss with
      | nil => rw [cl_nil]
      | cons s' ss =>
        cases ws with
        | nil => simp [cl]
        | cons w' ws => rw [nup] at e2; cases e2
/-! climbs_up -/
/-! a way climbs from its entry to the root -/
theorem cl_snoc (b f : Int) : ∀ (ss : List Bool) (e : Int) (ws : List Int) (s : Bool) (w : Int), ss.length = ws.length → cl b f (ss ++ [s]) e (ws ++ [w]) = dig b f (nodeOf s (cl b f ss e ws) w)
  | [], e, [], s, w, _ => by simp [cl]
  | [], e, _ :: _, s, w, h => nomatch h
  | _ :: _, e, [], s, w, h => nomatch h
  | x :: ss, e, y :: ws, s, w, h => by
    show cl b f (ss ++ [s]) (dig b f (nodeOf x e y)) (ws ++ [w]) = _
    rw [cl_snoc b f ss _ ws s w (Nat.succ.inj h)]
    rfl
theorem cl_wy (b f : Int) : ∀ (d : Nat) (es : List Int) (i : Nat) (x : Int), es.length ≤ d → es[i]? = some x → cl b f (tn es.length i) x (wy b f es i) = rt b f es
  | 0, es, i, x, h, hx => by
    have := (List.getElem?_eq_some_iff.mp hx).1
    omega
  | d + 1, es, i, x, h, hx => by
    have il := (List.getElem?_eq_some_iff.mp hx).1
    by_cases h2 : 2 ≤ es.length
    · have a := hf_lt h2
      have p := hf_pos es.length
      have lt : (es.take (hf es.length)).length = hf es.length := by rw [List.length_take]; omega
      have ld : (es.drop (hf es.length)).length = es.length - hf es.length := by rw [List.length_drop]
      by_cases hi : i < hf es.length
      · have ih := cl_wy b f d (es.take (hf es.length)) i x (by omega) (by rw [List.getElem?_take, if_pos hi]; exact hx)
        have wl := wy_len b f d (es.take (hf es.length)) i (by omega)
        rw [lt] at ih wl
        rw [wy_lo h2 hi, tn_lo h2 hi, cl_snoc b f _ _ _ _ _ wl.symm, ih, rt_two h2]
        rfl
      · have ih := cl_wy b f d (es.drop (hf es.length)) (i - hf es.length) x (by omega) (by rw [List.getElem?_drop, show hf es.length + (i - hf es.length) = i by omega]; exact hx)
        have wl := wy_len b f d (es.drop (hf es.length)) (i - hf es.length) (by omega)
        rw [ld] at ih wl
        rw [wy_hi h2 hi, tn_hi h2 hi, cl_snoc b f _ _ _ _ _ wl.symm, ih, rt_two h2]
        rfl
    · have i0 : i = 0 := by omega
      rw [tn_one h2, wy_one h2, cl_nil, rt_one h2]
      cases es with
      | nil => simp at il
      | cons y ys => rw [i0] at hx; exact (Option.some.inj hx).symm
/-! _first_count -/
section
local macro_rules | `(tactic| wtm_at "d") => `(tactic| fail)
def sp_fc : Sp := fun vs H Q _ => ∃ n : Nat, vs = [.int n] ∧ 2 ≤ n ∧ n < 2 ^ 70 ∧ Q (.int (hf n)) H
theorem ok__first_count (T : Txt P w K mg base) : DefOk P w K mg base "_first_count" ["count"] 1 sp_fc := by
  refine DefOk.by T.d__first_count sc__first_count oc__first_count (fun vs H Q E h => ?_) (fun X e1 e2 e3 e4 e5 C H vs Q E h => ?_)
  · obtain ⟨v, rfl, _⟩ := h; rfl
  · obtain ⟨n, rfl, h2, h64, q⟩ := h
    wtm_at "go"
    wtm_at "w"
    refine xe_bits ?_
    wtm_at "w"
    have e : ((n : Int) - 1) = ((n - 1 : Nat) : Int) := by omega
    rw [e, bits_log (by omega)]
    have l : (n - 1).log2 < 70 := by
      refine (Nat.pow_lt_pow_iff_right (a := 2) (by decide)).mp ?_
      have := Nat.log2_self_le (n := n - 1) (by omega)
      omega
    refine vo_shl ⟨by omega, by omega, by decide⟩ ?_
    have e2 : (1 : Int) * 2 ^ ((((n - 1).log2 + 1 : Nat) : Int) - 1).toNat = (hf n : Int) := by
      have e3 : ((((n - 1).log2 + 1 : Nat) : Int) - 1).toNat = (n - 1).log2 := by omega
      rw [e3, Int.one_mul]; unfold hf; simp
    rw [e2]; exact q
end
/-! _root_and_nodes -/
section
local macro_rules | `(tactic| wtm_at "d") => `(tactic| first | ((with_reducible show Z.XE _ (PySem.Expr.Call (PySem.Expr.Name "len" _) (_ :: _) [] _) _ _ _); refine Z.xe_callB (id := "len") (by assumption) (by wtm_at "m") T.b_len (by decide +kernel) ?_) | ((with_reducible show Z.XE _ (PySem.Expr.Name "NODE" _) _ _ _); refine Z.xe_glob (v := L2.V.int 3) (by assumption) (by wtm_at "m") T.c_NODE.choose_spec ⟨_, rfl⟩ ?_) | ((with_reducible show Z.XE _ (PySem.Expr.Call (PySem.Expr.Name "digest" _) (_ :: _) [] _) _ _ _); refine Z.xe_call (by assumption) (Law.ok_digest T) (by wtm_at "m") (by omega) ?_) | ((with_reducible show Z.XE _ (PySem.Expr.Call (PySem.Expr.Name "_first_count" _) (_ :: _) [] _) _ _ _); refine Z.xe_call (by assumption) (Law.ok__first_count T) (by wtm_at "m") (by omega) ?_) | ((with_reducible show Z.XE _ (PySem.Expr.Call (PySem.Expr.Name "_root_and_nodes" _) (_ :: _) [] _) _ _ _); refine Z.xe_call (by assumption) (Law.ok__root_and_nodes T) (by wtm_at "m") (by omega) ?_) | fail)
def sp_rn (d : Nat) (K : PySem.W.Frag) (C : Addr) : Sp := fun vs H Q _ => ∃ (p e : Addr) (b f : Int) (es : List Int), vs = [.ref p, .ref e] ∧ Mx C H p b f ∧ SqL K H e (es.map V.int) ∧ 1 ≤ es.length ∧ es.length ≤ 2 ^ d ∧ 0 < b ∧
  ∀ (t l : Addr) (us : List V) H', Kp [] H H' → SqT K H' t [.int (rt b f es), .ref l] → H' l = some (.lst us) → TupsAt K H' us (nds b f es) → Q (.ref t) H'
theorem rn_by (T : Txt P w K mg base) (d : Nat) (h9 : d ≤ 9) (ih : 0 < d → DefOk P w K mg base "_root_and_nodes" ["mixing", "entries"] (d + 2) (sp_rn (d - 1) K T.C_Mixing)) : DefOk P w K mg base "_root_and_nodes" ["mixing", "entries"] (d + 2 + 1) (sp_rn d K T.C_Mixing) := by
  refine DefOk.by T.d__root_and_nodes sc__root_and_nodes oc__root_and_nodes (fun vs H Q E h => ?_) (fun X e1 e2 e3 e4 e5 C H vs Q E h => ?_)
  · obtain ⟨p, e, b, f, es, rfl, _⟩ := h; rfl
  · obtain ⟨p, e, b, f, es, rfl, hm, he, l1, ld, hb, q⟩ := h
    have h512 : es.length ≤ 512 := Nat.le_trans ld (Nat.pow_le_pow_right (by decide) h9)
    wtm_at "go"
    wtm_at "w"
    refine ite_b (fun h => ?_) (fun h => ?_)
    · have : es = [] := by simpa using h
      rw [this] at l1; simp at l1
    wtm_at "w"
    rw [List.length_map]
    refine ite_d (fun h1 => ?_) (fun h1 => ?_)
    · have h2 : ¬ 2 ≤ es.length := by omega
      wtm_at "w"
      have h0 : es[0]? = some (es.headD 0) := by
        cases es with
        | nil => simp at l1
        | cons x xs => rfl
      refine vx_lst he (at_map (by decide) h0) ?_
      wtm_at "w"
      intro l H1 k1 nl hl
      wtm_at "w"
      intro t H2 k2 ht _
      refine q t l [] H2 (k1.tr0 k2) (by rw [rt_one h2]; exact ht) (k2.at0 hl) (by rw [nds_one h2]; exact .nil)
    · have h2 : 2 ≤ es.length := by omega
      have d0 : 0 < d := by
        cases d with
        | zero => simp at ld; omega
        | succ d => omega
      obtain ⟨d', rfl⟩ : ∃ d', d = d' + 1 := ⟨d - 1, by omega⟩
      have lt := hf_lt h2
      have lp := hf_pos es.length
      wtm_at "w"
      refine ⟨es.length, by rw [List.length_map], h2, by omega, ?_⟩
      wtm_at "w"
      refine xe_call (by assumption) (ih d0) (by wtm_at "m") (by omega) ?_
      wtm_at "w"
      refine vsl_lst he (fun c1 H1 k1 n1 g1 => ?_)
      rw [cut_take _ _ (by rw [List.length_map]; omega), ← List.map_take] at g1
      wtm_at "w"
      refine ⟨p, c1, b, f, _, rfl, hm.kp k1, Z.SqL.of' g1, by rw [len_take h2]; omega, by rw [len_take h2]; exact hf_le h2 ld, hb, fun t1 m1 us1 H2 k2 ht1 hm1 T1 => ?_⟩
      wtm_at "w"
      refine xg_tup C ⟨t1, _, rfl, ht1, rfl, ?_⟩
      wtm_at "w"
      refine xe_call (by assumption) (ih d0) (by wtm_at "m") (by omega) ?_
      wtm_at "w"
      refine vsl_lst (k2.lst0 (k1.lst0 he)) (fun c2 H3 k3 n3 g3 => ?_)
      rw [cut_drop _ _ (by rw [List.length_map]; omega), ← List.map_drop] at g3
      wtm_at "w"
      refine ⟨p, c2, b, f, _, rfl, ((hm.kp k1).kp k2).kp k3, Z.SqL.of' g3, by rw [List.length_drop]; omega, by rw [List.length_drop]; exact rest_le h2 ld, hb, fun t2 m2 us2 H4 k4 ht2 hm2 T2 => ?_⟩
      wtm_at "w"
      refine xg_tup C ⟨t2, _, rfl, ht2, rfl, ?_⟩
      wtm_at "w"
      intro nd H5 k5 hnd _
      have k35 := (k3.tr0 k4).tr0 k5
      wtm_at "w"
      have hnd' : SqT X.K H5 nd (([3, rt b f (es.take (hf es.length)), rt b f (es.drop (hf es.length))] : List Int).map V.int) := hnd
      refine ⟨p, nd, b, f, _, rfl, ((hm.kp k1).kp k2).kp k35, hnd', hb, ?_⟩
      rw [← rt_two h2]
      wtm_at "w"
      refine ⟨m1, us1, rfl, .inr (Z.SqL.of' (k35.at0 hm1)), ?_⟩
      wtm_at "w"
      refine ⟨m2, us2, rfl, .inr (Z.SqL.of' (k5.at0 hm2)), ?_⟩
      wtm_at "w"
      have L1 := T1.len
      have L2' := T2.len
      have N1 := nds_len b f 600 (es.take (hf es.length)) (by rw [len_take h2]; omega) (by rw [len_take h2]; omega)
      have N2 := nds_len b f 600 (es.drop (hf es.length)) (by rw [List.length_drop]; omega) (by rw [List.length_drop]; omega)
      rw [len_take h2] at N1
      rw [List.length_drop] at N2
      refine ⟨sz_ (by simp; omega), fun r1 H6 k6 n6 g6 => ?_⟩
      wtm_at "w"
      intro t H7 k7 ht _
      refine q t r1 _ H7 (((k1.tr0 k2).tr0 k35).tr0 k6 |>.tr0 k7) ht (k7.at0 g6) ?_
      rw [nds_two h2]
      have T1' := T1.kp ((k35.tr0 k6).tr0 k7)
      have T2' := T2.kp ((k5.tr0 k6).tr0 k7)
      refine .cons (dp_T (k7.tup (k6.tup hnd'))) ?_
      rw [List.append_nil]
      exact T1'.app T2'
theorem rn_ok (T : Txt P w K mg base) : ∀ d, d ≤ 9 → DefOk P w K mg base "_root_and_nodes" ["mixing", "entries"] (d + 2 + 1) (sp_rn d K T.C_Mixing)
  | 0, h => rn_by T 0 h fun h => absurd h (by omega)
  | d + 1, h => rn_by T (d + 1) h fun _ => rn_ok T d (by omega)
end
/-! root_of -/
section
local macro_rules | `(tactic| wtm_at "d") => `(tactic| first | ((with_reducible show Z.XE _ (PySem.Expr.Call (PySem.Expr.Name "_root_and_nodes" _) (_ :: _) [] _) _ _ _); refine Z.xe_call (by assumption) (Law.ok__root_and_nodes T) (by wtm_at "m") (by omega) ?_) | fail)
def sp_root (K : PySem.W.Frag) (C : Addr) : Sp := fun vs H Q _ => ∃ (p e : Addr) (b f : Int) (es : List Int), vs = [.ref p, .ref e] ∧ Mx C H p b f ∧ SqL K H e (es.map V.int) ∧ 1 ≤ es.length ∧ es.length ≤ 512 ∧ 0 < b ∧ ∀ H', Kp [] H H' → Q (.int (rt b f es)) H'
theorem ok_root_of (T : Txt P w K mg base) : DefOk P w K mg base "root_of" ["mixing", "entries"] 13 (sp_root K T.C_Mixing) := by
  refine DefOk.by T.d_root_of sc_root_of oc_root_of (fun vs H Q E h => ?_) (fun X e1 e2 e3 e4 e5 C H vs Q E h => ?_)
  · obtain ⟨p, e, b, f, es, rfl, _⟩ := h; rfl
  · obtain ⟨p, e, b, f, es, rfl, hm, he, l1, ld, hb, q⟩ := h
    wtm_at "go"
    wtm_at "w"
    refine xe_call (by assumption) (rn_ok T 9 (by omega)) (by wtm_at "m") (by omega) ?_
    wtm_at "w"
    refine ⟨p, e, b, f, es, rfl, hm, he, l1, ld, hb, fun t l us H1 k1 ht _ _ => ?_⟩
    wtm_at "w"
    refine xg_tup C ⟨t, _, rfl, ht, rfl, ?_⟩
    wtm_at "w"
    exact q H1 k1
end
/-! turns -/
section
local macro_rules | `(tactic| wtm_at "d") => `(tactic| first | ((with_reducible show Z.XE _ (PySem.Expr.Call (PySem.Expr.Name "_first_count" _) (_ :: _) [] _) _ _ _); refine Z.xe_call (by assumption) (Law.ok__first_count T) (by wtm_at "m") (by omega) ?_) | fail)
def sp_turns : Sp := fun vs H Q _ => ∃ (c i : Nat), vs = [.int c, .int i] ∧ 1 ≤ c ∧ c ≤ 2 ^ 68 ∧ i < c ∧ ∀ p H', Kp [] H H' → H p = none → H' p = some (.lst ((tn c i).map V.bl)) → Q (.ref p) H'
theorem ok_turns (T : Txt P w K mg base) : DefOk P w K mg base "turns" ["count", "index"] 2 sp_turns := by
  refine DefOk.by T.d_turns sc_turns oc_turns (fun vs H Q E h => ?_) (fun X e1 e2 e3 e4 e5 C H vs Q E h => ?_)
  · obtain ⟨c, i, rfl, _⟩ := h; rfl
  · obtain ⟨c, i, rfl, c1, c2, ic, q⟩ := h
    have tl := tn_len 68 c i c2
    wtm_at "go"
    wtm_at "w"
    intro L H1 k1 nL hL
    wtm_at "w"
    -- what is found so far, and the rest of it
    refine xs_while (by assumption) (fun m σ H' => ∃ (s j : Nat) (bs : List Bool) (v1 v2 : Option V), σ = [some (.int c), some (.int i), some (.ref L), some (.int s), some (.int j), v1, v2] ∧ m = s ∧ 1 ≤ s ∧ s ≤ c ∧ j < s ∧ tn c i = tn s j ++ bs.reverse ∧ Kp [] H H' ∧ H' L = some (.lst (bs.map V.bl))) ⟨_, c, i, [], none, none, rfl, rfl, c1, Nat.le_refl _, ic, by simp, k1, hL⟩ ?_
    rintro s σ' H2 ⟨s0, j, bs, v1, v2, rfl, rfl, s1, sc, js, e, k2, h2⟩
    have lb : bs.length ≤ 68 := by
      have := congrArg List.length e
      rw [List.length_append, List.length_reverse] at this; omega
    wtm_at "w"
    refine ite_d (fun h => ?_) (fun h => ?_)
    · have s2 : 2 ≤ s := by omega
      have lt := hf_lt s2
      have lp := hf_pos s
      wtm_at "w"
      refine ⟨s, rfl, s2, by omega, ?_⟩
      wtm_at "w"
      refine ⟨h2, szl (by rw [List.length_map]; omega), fun H3 k3 h3 => ?_⟩
      wtm_at "w"
      refine ite_d (fun hj => ?_) (fun hj => ?_)
      · have hj' : ¬ j < hf s := by omega
        wtm_at "w"
        have e1 : ((j : Int) - (hf s : Int)) = ((j - hf s : Nat) : Int) := by omega
        have e2 : ((s : Int) - (hf s : Int)) = ((s - hf s : Nat) : Int) := by omega
        rw [e1, e2]
        refine ⟨s - hf s, by omega, s - hf s, j - hf s, bs ++ [true], _, _, rfl, rfl, by omega, by omega, by omega, ?_, k2.tr1 k3 (.inr nL), ?_⟩
        · rw [e, tn_hi s2 hj', List.reverse_append]; simp
        · rw [h3, List.map_append, decide_eq_true hj]; rfl
      · have hj' : j < hf s := by omega
        wtm_at "w"
        refine ⟨hf s, lt, hf s, j, bs ++ [false], _, _, rfl, rfl, by omega, by omega, hj', ?_, k2.tr1 k3 (.inr nL), ?_⟩
        · rw [e, tn_lo s2 hj', List.reverse_append]; simp
        · rw [h3, List.map_append, decide_eq_false hj]; rfl
    · wtm_at "w"
      refine ⟨L, _, rfl, Z.SqL.of' h2, fun r H3 k3 n3 h3 => ?_⟩
      refine q r H3 (k2.tr0 k3) (k2.n _ n3) ?_
      rw [h3, e, tn_one (by omega)]; simp
end
/-! way_of -/
section
local macro_rules | `(tactic| wtm_at "d") => `(tactic| first | ((with_reducible show Z.XE _ (PySem.Expr.Call (PySem.Expr.Name "len" _) (_ :: _) [] _) _ _ _); refine Z.xe_callB (id := "len") (by assumption) (by wtm_at "m") T.b_len (by decide +kernel) ?_) | ((with_reducible show Z.XE _ (PySem.Expr.Call (PySem.Expr.Name "tuple" _) (_ :: _) [] _) _ _ _); refine Z.xe_callTy (id := "tuple") (by assumption) (by wtm_at "m") T.b_tuple (by decide +kernel) ?_) | ((with_reducible show Z.XE _ (PySem.Expr.Name "tuple" _) _ _ _); refine Z.xe_ty (id := "tuple") (by assumption) (by wtm_at "m") T.b_tuple (by decide +kernel) ?_) | ((with_reducible show Z.XE _ (PySem.Expr.Call (PySem.Expr.Name "_first_count" _) (_ :: _) [] _) _ _ _); refine Z.xe_call (by assumption) (Law.ok__first_count T) (by wtm_at "m") (by omega) ?_) | ((with_reducible show Z.XE _ (PySem.Expr.Call (PySem.Expr.Name "root_of" _) (_ :: _) [] _) _ _ _); refine Z.xe_call (by assumption) (Law.ok_root_of T) (by wtm_at "m") (by omega) ?_) | ((with_reducible show Z.XE _ (PySem.Expr.Call (PySem.Expr.Name "turns" _) (_ :: _) [] _) _ _ _); refine Z.xe_call (by assumption) (Law.ok_turns T) (by wtm_at "m") (by omega) ?_) | fail)
/-- where a turn leads -/
theorem turn_at {c j t : Nat} {ts : List Bool} {x : Bool} (hd : ts.drop t = (tn c j).reverse) (hx : ts[t]? = some x) : 2 ≤ c ∧ ((x = false ∧ j < hf c ∧ ts.drop (t + 1) = (tn (hf c) j).reverse) ∨ (x = true ∧ ¬ j < hf c ∧ ts.drop (t + 1) = (tn (c - hf c) (j - hf c)).reverse)) := by
  rw [drop_at hx] at hd
  by_cases h2 : 2 ≤ c
  · refine ⟨h2, ?_⟩
    by_cases hj : j < hf c
    · rw [tn_lo h2 hj, List.reverse_append] at hd
      obtain ⟨a, b⟩ := List.cons.inj hd
      exact .inl ⟨a, hj, b⟩
    · rw [tn_hi h2 hj, List.reverse_append] at hd
      obtain ⟨a, b⟩ := List.cons.inj hd
      exact .inr ⟨a, hj, b⟩
  · rw [tn_one h2] at hd; cases hd
def sp_way (K : PySem.W.Frag) (C : Addr) : Sp := fun vs H Q _ => ∃ (p e : Addr) (b f : Int) (es : List Int) (i : Nat), vs = [.ref p, .ref e, .int i] ∧ Mx C H p b f ∧ H e = some (.lst (es.map V.int)) ∧ i < es.length ∧ es.length ≤ 512 ∧ 0 < b ∧ ∀ t H', Kp [] H H' → SqT K H' t ((wy b f es i).map V.int) → Q (.ref t) H'
theorem ok_way_of (T : Txt P w K mg base) : DefOk P w K mg base "way_of" ["mixing", "entries", "index"] 14 (sp_way K T.C_Mixing) := by
  refine DefOk.by T.d_way_of sc_way_of oc_way_of (fun vs H Q E h => ?_) (fun X e1 e2 e3 e4 e5 C H vs Q E h => ?_)
  · obtain ⟨p, e, b, f, es, i, rfl, _⟩ := h; rfl
  · obtain ⟨p, e, b, f, es, i, rfl, hm, he, il, ld, hb, q⟩ := h
    have tl := tn_len 9 es.length i ld
    have wl := wy_len b f 600 es i (by omega)
    wtm_at "go"
    wtm_at "w"
    intro L H1 k1 nL hL
    wtm_at "w"
    refine xs_forL (by assumption) ?_
    wtm_at "w"
    refine ⟨es.length, i, by rw [List.length_map], by omega, by omega, il, fun r1 H2 k2 n2 h2 => ?_⟩
    wtm_at "w"
    refine ⟨r1, _, rfl, Z.SqL.of' h2, fun r2 H3 k3 n3 h3 => ?_⟩
    rw [← List.map_reverse] at h3
    have k13 := (k1.tr0 k2).tr0 k3
    have L3 : H3 L = some (.lst []) := k3.at0 (k2.at0 hL)
    have nr2 : r2 ≠ L := (ne_of_none (k2.at0 hL) n3).symm
    refine ⟨r2, _, rfl, Z.SqL.of' h3, fun t σ H' => ∃ (pr : Addr) (ps ws : List Int) (j : Nat) (v1 v2 v3 v4 v5 : Option V), σ = [some (.ref p), some (.ref e), some (.int i), some (.ref L), some (.ref pr), v1, v2, v3, v4, v5] ∧ Kp [L] H3 H' ∧ H' L = some (.lst (ws.map V.int)) ∧
      SqL X.K H' pr (ps.map V.int) ∧ pr ≠ L ∧ j < ps.length ∧ ps.length ≤ 512 ∧ wy b f es i = wy b f ps j ++ ws.reverse ∧ (tn es.length i).reverse.drop t = (tn ps.length j).reverse, ?_, ?_, ?_, ?_⟩
    · exact ⟨e, es, [], i, none, none, none, none, none, rfl, Kp.refl _ _, L3, Z.SqL.of' (k13.at0 he), ne_of_none he nL, il, ld, by simp, by simp⟩
    · rintro t σ' H' _ ⟨pr, ps, ws, j, v1, v2, v3, v4, v5, rfl, k, _⟩
      exact Z.SqL.of' (k.at1 nr2 h3)
    · rintro t y σ' H4 hy ⟨pr, ps, ws, j, v1, v2, v3, v4, v5, rfl, k4, hL4, hp4, np, jl, pl, ew, et⟩
      obtain ⟨x, hx, rfl⟩ := map_at_bl hy
      obtain ⟨s2, hcase⟩ := turn_at et hx
      have lt := hf_lt s2
      have lp := hf_pos ps.length
      wtm_at "w"
      refine ⟨ps.length, by rw [List.length_map], s2, by omega, ?_⟩
      wtm_at "w"
      refine xs_par C (by wtm_at "m") (by wtm_at "m") (by decide +kernel) (by decide +kernel) (by decide +kernel) ?_
      wtm_at "w"
      refine vsl_lst hp4 (fun c1 H5 k5 n5 g5 => ?_)
      rw [cut_take _ _ (by rw [List.length_map]; omega), ← List.map_take] at g5
      wtm_at "w"
      refine vsl_lst (k5.lst0 hp4) (fun c2 H6 k6 n6 g6 => ?_)
      rw [cut_drop _ _ (by rw [List.length_map]; omega), ← List.map_drop] at g6
      refine ⟨_, _, by wtm_at "u", by wtm_at "u", ?_⟩
      wtm_at "w"
      have L6 : H6 L = some (.lst (ws.map V.int)) := k6.at0 (k5.at0 hL4)
      have lw : ws.length ≤ 20 := by
        have := congrArg List.length ew
        rw [List.length_append, List.length_reverse] at this; omega
      have nc1 : c1 ≠ L := (ne_of_none hL4 n5).symm
      have nc2 : c2 ≠ L := (ne_of_none (k5.at0 hL4) n6).symm
      have k06 : Kp [] H H6 := ((k13.tr1 k4 (.inr nL)).tr0 k5).tr0 k6
      have k36 : Kp [L] H3 H6 := (k4.tr0 k5).tr0 k6
      have g5' := k6.at0 g5
      refine ite_b (fun hx1 => ?_) (fun hx1 => ?_)
      · rcases hcase with ⟨hf0, _⟩ | ⟨_, hj, ht⟩
        · rw [hf0] at hx1; cases hx1
        wtm_at "w"
        intro t7 H7 k7 ht7 _
        refine xg_tup C ⟨t7, _, rfl, ht7, rfl, ?_⟩
        wtm_at "w"
        refine ⟨p, c1, b, f, _, rfl, hm.kp (k06.tr0 k7), Z.SqL.of' (k7.at0 g5'), by rw [len_take s2]; omega, by rw [len_take s2]; omega, hb, fun H8 k8 => ?_⟩
        refine ⟨k8.at0 (k7.at0 L6), szl (by rw [List.length_map]; omega), fun H9 k9 h9 => ?_⟩
        wtm_at "w"
        refine ⟨c2, _, ws ++ [rt b f (ps.take (hf ps.length))], j - hf ps.length, _, _, _, _, _, rfl, ((k36.tr0 k7).tr0 k8).tr1 k9 (.inl (by simp)), by rw [h9, List.map_append]; rfl, Z.SqL.of' (k9.at1 nc2 (k8.at0 (k7.at0 g6))), nc2, ?_, ?_, ?_, ?_⟩
        · rw [List.length_drop]; omega
        · rw [List.length_drop]; omega
        · rw [ew, wy_hi s2 hj, List.reverse_append]; simp
        · rw [ht, List.length_drop]
      · rcases hcase with ⟨_, hj, ht⟩ | ⟨hf0, _⟩
        · wtm_at "w"
          intro t7 H7 k7 ht7 _
          refine xg_tup C ⟨t7, _, rfl, ht7, rfl, ?_⟩
          wtm_at "w"
          refine ⟨p, c2, b, f, _, rfl, hm.kp (k06.tr0 k7), Z.SqL.of' (k7.at0 g6), by rw [List.length_drop]; omega, by rw [List.length_drop]; omega, hb, fun H8 k8 => ?_⟩
          refine ⟨k8.at0 (k7.at0 L6), szl (by rw [List.length_map]; omega), fun H9 k9 h9 => ?_⟩
          wtm_at "w"
          refine ⟨c1, _, ws ++ [rt b f (ps.drop (hf ps.length))], j, _, _, _, _, _, rfl, ((k36.tr0 k7).tr0 k8).tr1 k9 (.inl (by simp)), by rw [h9, List.map_append]; rfl, Z.SqL.of' (k9.at1 nc1 (k8.at0 (k7.at0 g5'))), nc1, ?_, ?_, ?_, ?_⟩
          · rw [len_take s2]; exact hj
          · rw [len_take s2]; omega
          · rw [ew, wy_lo s2 hj, List.reverse_append]; simp
          · rw [ht, len_take s2]
        · rw [hf0] at hx1; cases hx1
    · rintro σ' H4 ⟨pr, ps, ws, j, v1, v2, v3, v4, v5, rfl, k4, hL4, hp4, np, jl, pl, ew, et⟩
      have e0 : (tn ps.length j) = [] := by
        rw [List.length_map, List.length_reverse] at et
        have : ((tn es.length i).reverse).drop (tn es.length i).length = [] := List.drop_eq_nil_of_le (by simp)
        rw [this] at et
        simpa using et.symm
      have e1 : wy b f ps j = [] := by
        have := wy_len b f 600 ps j (by omega)
        rw [e0] at this
        exact List.length_eq_zero_iff.mp this
      rw [e1, List.nil_append] at ew
      wtm_at "w"
      refine ⟨L, _, rfl, Z.SqL.of' hL4, fun r5 H5 k5 n5 h5 => ?_⟩
      wtm_at "w"
      refine vc_tupL (Z.SqL.of' h5) (fun r6 H6 k6 h6 => ?_)
      refine q r6 H6 (((k13.tr1 k4 (.inr nL)).tr0 k5).tr0 k6) ?_
      rw [ew, List.map_reverse]; exact h6
end
/-! unlike -/
/-! the first nodes that differ -/
def fdiff : List (List Int) → List (List Int) → Option (List Int × List Int)
  | a :: as, b :: bs => if a = b then fdiff as bs else some (a, b)
  | _, _ => none
theorem fdiff_cons (a b : List Int) (as bs : List (List Int)) : fdiff (a :: as) (b :: bs) = if a = b then fdiff as bs else some (a, b) := by rw [fdiff]
theorem fdiff_app : ∀ (as bs cs ds : List (List Int)), as.length = bs.length → fdiff (as ++ cs) (bs ++ ds) = (fdiff as bs).or (fdiff cs ds)
  | [], [], cs, ds, _ => by simp [fdiff]
  | a :: as, b :: bs, cs, ds, h => by
    by_cases e : a = b
    · simp only [List.cons_append, fdiff, if_pos e]
      exact fdiff_app as bs cs ds (by simpa using h)
    · simp [fdiff, if_neg e]
  | [], _ :: _, _, _, h => by simp at h
  | _ :: _, [], _, _, h => by simp at h
/-- the node at the head of entries -/
def hd3 (b f : Int) (es : List Int) : List Int := [3, rt b f (es.take (hf es.length)), rt b f (es.drop (hf es.length))]
theorem fdiff_two {b f : Int} {xs ys : List Int} (h : xs.length = ys.length) (h2 : 2 ≤ xs.length) : fdiff (nds b f xs) (nds b f ys) = if hd3 b f xs = hd3 b f ys then (fdiff (nds b f (xs.take (hf xs.length))) (nds b f (ys.take (hf ys.length)))).or (fdiff (nds b f (xs.drop (hf xs.length))) (nds b f (ys.drop (hf ys.length)))) else some (hd3 b f xs, hd3 b f ys) := by
  have h2' : 2 ≤ ys.length := by omega
  rw [nds_two h2, nds_two h2']
  rw [fdiff_cons]
  show (if hd3 b f xs = hd3 b f ys then _ else some (hd3 b f xs, hd3 b f ys)) = _
  by_cases e : hd3 b f xs = hd3 b f ys
  · rw [if_pos e, if_pos e]
    apply fdiff_app
    have p := hf_pos xs.length
    have l := hf_lt h2
    have n1 := nds_len b f xs.length (xs.take (hf xs.length)) (by rw [List.length_take]; omega) (by rw [List.length_take]; omega)
    have n2 := nds_len b f ys.length (ys.take (hf ys.length)) (by rw [List.length_take]; omega) (by rw [List.length_take, ← h]; omega)
    rw [List.length_take] at n1 n2
    have hh : hf ys.length = hf xs.length := by rw [h]
    omega
  · rw [if_neg e, if_neg e]
theorem fdiff_one {b f : Int} {xs ys : List Int} (h2 : ¬ 2 ≤ xs.length) : fdiff (nds b f xs) (nds b f ys) = none := by rw [nds_one h2]; simp [fdiff]
theorem fdiff_self : ∀ as : List (List Int), fdiff as as = none
  | [] => by simp [fdiff]
  | a :: as => by simp [fdiff, fdiff_self as]
/-- what is told: nothing of equal entries; else two unlike nodes with one digest -/
theorem fdiff_none {b f : Int} : ∀ (n : Nat) (xs ys : List Int), xs.length ≤ n → xs.length = ys.length → 1 ≤ xs.length → rt b f xs = rt b f ys → fdiff (nds b f xs) (nds b f ys) = none → xs = ys
  | 0, xs, ys, h, _, h1, _, _ => by omega
  | n + 1, xs, ys, h, hl, h1, hr, hd => by
    by_cases h2 : 2 ≤ xs.length
    · have p := hf_pos xs.length
      have l := hf_lt h2
      rw [fdiff_two hl h2] at hd
      by_cases e : hd3 b f xs = hd3 b f ys
      · rw [if_pos e] at hd
        have e1 : rt b f (xs.take (hf xs.length)) = rt b f (ys.take (hf ys.length)) := by unfold hd3 at e; simp at e; exact e.1
        have e2 : rt b f (xs.drop (hf xs.length)) = rt b f (ys.drop (hf ys.length)) := by unfold hd3 at e; simp at e; exact e.2
        have hd' := Option.or_eq_none_iff.mp hd
        have i1 := fdiff_none n _ _ (by rw [List.length_take]; omega) (by rw [List.length_take, List.length_take, hl]) (by rw [List.length_take]; omega) e1 hd'.1
        have i2 := fdiff_none n _ _ (by rw [List.length_drop]; omega) (by rw [List.length_drop, List.length_drop, hl]) (by rw [List.length_drop]; omega) e2 hd'.2
        rw [← List.take_append_drop (hf xs.length) xs, ← List.take_append_drop (hf ys.length) ys, i1, i2]
      · rw [if_neg e] at hd; cases hd
    · rw [rt_one h2, rt_one (by omega)] at hr
      cases xs with
      | nil => simp at h1
      | cons x xs =>
        cases ys with
        | nil => simp at hl
        | cons y ys =>
          have a : xs = [] := List.length_eq_zero_iff.mp (by rw [List.length_cons] at h2; omega)
          have b : ys = [] := List.length_eq_zero_iff.mp (by rw [List.length_cons] at h2 hl; rw [List.length_cons] at hl; omega)
          have c : x = y := hr
          rw [a, b, c]
theorem fdiff_some {b f : Int} : ∀ (n : Nat) (xs ys u v : List Int), xs.length ≤ n → xs.length = ys.length → 1 ≤ xs.length → rt b f xs = rt b f ys → fdiff (nds b f xs) (nds b f ys) = some (u, v) → u ≠ v ∧ dig b f u = dig b f v ∧ u.length = 3 ∧ v.length = 3
  | 0, xs, ys, _, _, h, _, h1, _, _ => by omega
  | n + 1, xs, ys, u, v, h, hl, h1, hr, hd => by
    by_cases h2 : 2 ≤ xs.length
    · have p := hf_pos xs.length
      have l := hf_lt h2
      rw [fdiff_two hl h2] at hd
      by_cases e : hd3 b f xs = hd3 b f ys
      · rw [if_pos e] at hd
        have e1 : rt b f (xs.take (hf xs.length)) = rt b f (ys.take (hf ys.length)) := by unfold hd3 at e; simp at e; exact e.1
        have e2 : rt b f (xs.drop (hf xs.length)) = rt b f (ys.drop (hf ys.length)) := by unfold hd3 at e; simp at e; exact e.2
        cases c : fdiff (nds b f (xs.take (hf xs.length))) (nds b f (ys.take (hf ys.length))) with
        | some z =>
          rw [c] at hd
          have : z = (u, v) := by simpa using hd
          exact fdiff_some n _ _ u v (by rw [List.length_take]; omega) (by rw [List.length_take, List.length_take, hl]) (by rw [List.length_take]; omega) e1 (by rw [c, this])
        | none =>
          rw [c] at hd
          exact fdiff_some n _ _ u v (by rw [List.length_drop]; omega) (by rw [List.length_drop, List.length_drop, hl]) (by rw [List.length_drop]; omega) e2 (by simpa using hd)
      · rw [if_neg e] at hd
        have q := Option.some.inj hd
        have q1 : hd3 b f xs = u := congrArg Prod.fst q
        have q2 : hd3 b f ys = v := congrArg Prod.snd q
        rw [← q1, ← q2]
        refine ⟨e, ?_, rfl, rfl⟩
        have r1 := rt_two (b := b) (f := f) h2
        have r2 := rt_two (b := b) (f := f) (show 2 ≤ ys.length by omega)
        show dig b f (hd3 b f xs) = dig b f (hd3 b f ys)
        unfold hd3
        rw [← r1, ← r2]; exact hr
    · rw [fdiff_one h2] at hd; cases hd
/-- as data -/
def unD : Option (List Int × List Int) → PyData
  | none => .none
  | some (a, b) => .tuple [.tuple (a.map PyData.int), .tuple (b.map PyData.int)]
/-! plain -/
mutual
def plainD : PyData → Prop
  | .none | .bool _ | .int _ => True
  | .str _ | .dict _ => False
  | .list ds | .tuple ds => ds.length ≤ 100000 ∧ plainAll ds
def plainAll : List PyData → Prop
  | [] => True
  | d :: ds => plainD d ∧ plainAll ds
end
theorem plain_at : ∀ {ds : List PyData} {i : Nat} {d : PyData}, plainAll ds → ds[i]? = some d → plainD d
  | [], _, _, _, e => by simp at e
  | x :: xs, 0, d, h, e => by
    have e' : x = d := by simpa using e
    rw [plainAll] at h; rw [← e']; exact h.1
  | x :: xs, i + 1, d, h, e => by rw [plainAll] at h; exact plain_at (ds := xs) h.2 (by simpa using e)
theorem plain_ints : ∀ ns : List Int, plainAll (ns.map PyData.int)
  | [] => by simp [plainAll]
  | n :: ns => by simp [plainAll, plainD, plain_ints ns]
/-! data -/
theorem canLay_bls : ∀ bs : List Bool, PyData.canLayAll0 (bs.map PyData.bool) = true
  | [] => by simp [PyData.canLayAll0]
  | n :: ns => by simp [PyData.canLayAll0, PyData.canLay0, canLay_bls ns]
theorem depth_bls : ∀ bs : List Bool, PyData.depthAll (bs.map PyData.bool) = 0
  | [] => by simp [PyData.depthAll]
  | n :: ns => by simp [PyData.depthAll, PyData.depth, depth_bls ns]
theorem plain_bls : ∀ bs : List Bool, plainAll (bs.map PyData.bool)
  | [] => by simp [plainAll]
  | n :: ns => by simp [plainAll, plainD, plain_bls ns]
theorem dpAll_bls {K : PySem.W.Frag} {H : Hp} : ∀ bs : List Bool, DpAll K H (bs.map V.bl) (bs.map PyData.bool)
  | [] => .nil
  | n :: ns => .cons (.bl n) (dpAll_bls ns)
theorem dp_B {K : PySem.W.Frag} {H : Hp} {p : Addr} {bs : List Bool} (h : SqL K H p (bs.map V.bl)) : Dp K H (.ref p) (.list (bs.map PyData.bool)) := .lst h (dpAll_bls bs)
theorem plB (bs : List Bool) (h : bs.length ≤ 100000) : plainD (.list (bs.map PyData.bool)) ∧ (PyData.list (bs.map PyData.bool)).depth ≤ 3 := by
  rw [plainD, PyData.depth, depth_bls, List.length_map]
  exact ⟨⟨h, plain_bls bs⟩, by decide⟩
theorem plT (ns : List Int) (h : ns.length ≤ 100000) : plainD (.tuple (ns.map PyData.int)) ∧ (PyData.tuple (ns.map PyData.int)).depth ≤ 3 := by
  rw [plainD, PyData.depth, depth_ints, List.length_map]
  exact ⟨⟨h, plain_ints ns⟩, by decide⟩
theorem plL (ns : List Int) (h : ns.length ≤ 100000) : plainD (.list (ns.map PyData.int)) ∧ (PyData.list (ns.map PyData.int)).depth ≤ 3 := by
  rw [plainD, PyData.depth, depth_ints, List.length_map]
  exact ⟨⟨h, plain_ints ns⟩, by decide⟩
theorem plI (n : Int) : plainD (.int n) ∧ (PyData.int n).depth ≤ 3 := by
  rw [plainD, PyData.depth]; exact ⟨trivial, by decide⟩
theorem sh2 (as bs : List Int) : SeqAt.shaped (.list [.list (as.map PyData.int), .list (bs.map PyData.int)]) = true := by
  simp [SeqAt.shaped, PyData.canLay0, PyData.canLayAll0, PyData.depth, PyData.depthAll, canLay_ints, depth_ints]
/-! unlike_data -/
theorem unD_non {K : PySem.W.Frag} {H : Hp} {v : V} {o : Option (List Int × List Int)} (h : Dp K H v (unD o)) : (v = .non ↔ o = none) := by
  cases o with
  | none => cases h; simp
  | some z =>
    obtain ⟨a, b⟩ := z
    cases h with
    | tup _ _ => simp
theorem noRefs {p : Addr} {us : List V} : ∀ ns : List Int, HO.lst (.ref p :: us) ≠ .lst (ns.map V.int) := by
  intro ns e
  have e2 : V.ref p :: us = ns.map V.int := HO.lst.inj e
  cases ns with
  | nil => cases e2
  | cons n ns => rw [List.map_cons] at e2; exact nomatch (List.cons.inj e2).1
theorem plU {o : Option (List Int × List Int)} (h : ∀ u v, o = some (u, v) → u.length = 3 ∧ v.length = 3) : plainD (unD o) ∧ (unD o).depth ≤ 3 := by
  cases o with
  | none => exact ⟨by simp [unD, plainD], by simp [unD, PyData.depth]⟩
  | some z =>
    obtain ⟨u, v⟩ := z
    have := h u v rfl
    refine ⟨?_, by simp [unD, PyData.depth, PyData.depthAll, depth_ints]⟩
    unfold unD
    simp only [plainD, plainAll, List.length_map, List.length_cons, List.length_nil]
    exact ⟨by omega, ⟨by omega, plain_ints _⟩, ⟨by omega, plain_ints _⟩, trivial⟩
/-! _first_difference -/
section
local macro_rules | `(tactic| wtm_at "d") => `(tactic| fail)
def sp_fd (K : PySem.W.Frag) : Sp := fun vs H Q _ => ∃ (p q : Addr) (us ws : List V) (as bs : List (List Int)), vs = [.ref p, .ref q] ∧ SqL K H p us ∧ SqL K H q ws ∧ TupsAt K H us as ∧ TupsAt K H ws bs ∧ as.length = bs.length ∧ ∀ v H', Kp [] H H' → Dp K H' v (unD (fdiff as bs)) → Q v H'
theorem ok__first_difference (T : Txt P w K mg base) : DefOk P w K mg base "_first_difference" ["one_nodes", "two_nodes"] 1 (sp_fd K) := by
  refine DefOk.by T.d__first_difference sc__first_difference oc__first_difference (fun vs H Q E h => ?_) (fun X e1 e2 e3 e4 e5 C H vs Q E h => ?_)
  · obtain ⟨p, q, us, ws, as, bs, rfl, _⟩ := h; rfl
  · obtain ⟨p, q, us, ws, as, bs, rfl, hp, hq, ha, hb, hl, z⟩ := h
    have la := ha.len
    have lb := hb.len
    wtm_at "go"
    refine xs_forZ C (by wtm_at "m") T.b_zip ?_
    wtm_at "w"
    refine ⟨p, q, us, ws, rfl, hp, hq, by omega, fun i σ H' => ∃ v1 v2, σ = [some (.ref p), some (.ref q), v1, v2] ∧ Kp [] H H' ∧ fdiff as bs = fdiff (as.drop i) (bs.drop i), ⟨_, _, rfl, Kp.refl _ _, by simp⟩, ?_, ?_, ?_⟩
    · rintro i σ' H' ⟨v1, v2, rfl, k, _⟩
      exact ⟨k.lst0 hp, k.lst0 hq⟩
    · rintro i x y T1 σ' H1 H2 hx hy ⟨v1, v2, rfl, k, e⟩ k2 hT
      obtain ⟨na, pa, h1, rfl, h2⟩ := ha.at hx
      obtain ⟨nb, pb, h3, rfl, h4⟩ := hb.at hy
      have kk := k.tr0 k2
      rw [drop_at h1, drop_at h3, fdiff_cons] at e
      refine xg_tup C ⟨T1, _, rfl, hT, rfl, ?_⟩
      wtm_at "w"
      refine vo_neT C (kk.tup h2) (kk.tup h4) ?_
      wtm_at "w"
      refine ite_nd (fun h => ?_) (fun h => ?_)
      · rw [if_neg h] at e
        wtm_at "w"
        intro t H3 k3 ht _
        refine z _ H3 (kk.tr0 k3) ?_
        rw [e]
        exact .tup ht (.cons (dp_T (k3.tup (kk.tup h2))) (.cons (dp_T (k3.tup (kk.tup h4))) .nil))
      · rw [if_pos h] at e
        wtm_at "w"
        exact ⟨_, _, rfl, kk, e⟩
    · rintro σ' H' ⟨v1, v2, rfl, k, e⟩
      rw [la, List.drop_eq_nil_of_le (Nat.le_refl _)] at e
      wtm_at "w"
      refine z _ H' k ?_
      rw [e]
      simp [fdiff, unD]
      exact .non
end
/-! clash_of_entries -/
section
local macro_rules | `(tactic| wtm_at "d") => `(tactic| first | ((with_reducible show Z.XE _ (PySem.Expr.Call (PySem.Expr.Name "_root_and_nodes" _) (_ :: _) [] _) _ _ _); refine Z.xe_call (by assumption) (Law.ok__root_and_nodes T) (by wtm_at "m") (by omega) ?_) | ((with_reducible show Z.XE _ (PySem.Expr.Call (PySem.Expr.Name "_first_difference" _) (_ :: _) [] _) _ _ _); refine Z.xe_call (by assumption) (Law.ok__first_difference T) (by wtm_at "m") (by omega) ?_) | fail)
def sp_clash (K : PySem.W.Frag) (C : Addr) : Sp := fun vs H Q _ => ∃ (p e g : Addr) (b f : Int) (xs ys : List Int), vs = [.ref p, .ref e, .ref g] ∧ Mx C H p b f ∧ SqL K H e (xs.map V.int) ∧ SqL K H g (ys.map V.int) ∧ 1 ≤ xs.length ∧ xs.length ≤ 512 ∧ xs.length = ys.length ∧ 0 < b ∧
  ∀ v H', Kp [] H H' → Dp K H' v (unD (fdiff (nds b f xs) (nds b f ys))) → Q v H'
theorem ok_clash_of_entries (T : Txt P w K mg base) : DefOk P w K mg base "clash_of_entries" ["mixing", "one", "two"] 13 (sp_clash K T.C_Mixing) := by
  refine DefOk.by T.d_clash_of_entries sc_clash_of_entries oc_clash_of_entries (fun vs H Q E h => ?_) (fun X e1 e2 e3 e4 e5 C H vs Q E h => ?_)
  · obtain ⟨p, e, g, b, f, xs, ys, rfl, _⟩ := h; rfl
  · obtain ⟨p, e, g, b, f, xs, ys, rfl, hm, he, hg, l1, ld, hl, hb, q⟩ := h
    wtm_at "go"
    wtm_at "w"
    refine xe_call (by assumption) (rn_ok T 9 (by omega)) (by wtm_at "m") (by omega) ?_
    wtm_at "w"
    refine ⟨p, e, b, f, xs, rfl, hm, he, l1, ld, hb, fun t l us H1 k1 ht hl1 T1 => ?_⟩
    wtm_at "w"
    refine xg_tup C ⟨t, _, rfl, ht, rfl, ?_⟩
    wtm_at "w"
    refine xe_call (by assumption) (rn_ok T 9 (by omega)) (by wtm_at "m") (by omega) ?_
    wtm_at "w"
    refine ⟨p, g, b, f, ys, rfl, hm.kp k1, k1.lst0 hg, by omega, by omega, hb, fun t' l' us' H2 k2 ht' hl2 T2 => ?_⟩
    wtm_at "w"
    refine xg_tup C ⟨t', _, rfl, ht', rfl, ?_⟩
    wtm_at "w"
    have n1 := nds_len b f 600 xs (by omega) l1
    have n2 := nds_len b f 600 ys (by omega) (by omega)
    exact ⟨l, l', us, us', _, _, rfl, Z.SqL.of' (k2.at0 hl1), Z.SqL.of' hl2, T1.kp k2, T2, by omega, fun v H3 k3 hv => q v H3 ((k1.tr0 k2).tr0 k3) hv⟩
end
/-! _greatest_step -/
section
local macro_rules | `(tactic| wtm_at "d") => `(tactic| fail)
def sp_gs : Sp := fun vs H Q _ => ∃ n : Int, vs = [.int n] ∧ Q (.int (Builtin.bitAnd n (-n))) H
theorem ok__greatest_step (T : Txt P w K mg base) : DefOk P w K mg base "_greatest_step" ["number"] 1 sp_gs := by
  refine DefOk.by T.d__greatest_step sc__greatest_step oc__greatest_step (fun vs H Q E h => ?_) (fun X e1 e2 e3 e4 e5 C H vs Q E h => ?_)
  · obtain ⟨v, rfl, _⟩ := h; rfl
  · obtain ⟨v, rfl, q⟩ := h
    wtm_at "go"
    wtm_at "w"
    exact vo_and q
end
/-! _back_count -/
section
local macro_rules | `(tactic| wtm_at "d") => `(tactic| first | ((with_reducible show Z.XE _ (PySem.Expr.Call (PySem.Expr.Name "_greatest_step" _) (_ :: _) [] _) _ _ _); refine Z.xe_call (by assumption) (Law.ok__greatest_step T) (by wtm_at "m") (by omega) ?_) | fail)
def sp_bc : Sp := fun vs H Q _ => ∃ n : Int, vs = [.int n] ∧ Q (.int (cntB n)) H
theorem ok__back_count (T : Txt P w K mg base) : DefOk P w K mg base "_back_count" ["number"] 2 sp_bc := by
  refine DefOk.by T.d__back_count sc__back_count oc__back_count (fun vs H Q E h => ?_) (fun X e1 e2 e3 e4 e5 C H vs Q E h => ?_)
  · obtain ⟨v, rfl, _⟩ := h; rfl
  · obtain ⟨v, rfl, q⟩ := h
    wtm_at "go"
    wtm_at "w"
    refine xe_bits ?_
    wtm_at "w"
    refine ⟨v, rfl, _, rfl, ?_⟩
    exact q
end
/-! is_thing -/
section
local macro_rules | `(tactic| wtm_at "d") => `(tactic| first | ((with_reducible show Z.XE _ (PySem.Expr.Call (PySem.Expr.Name "len" _) (_ :: _) [] _) _ _ _); refine Z.xe_callB (id := "len") (by assumption) (by wtm_at "m") T.b_len (by decide +kernel) ?_) | ((with_reducible show Z.XE _ (PySem.Expr.Name "BEACON" _) _ _ _); refine Z.xe_glob (v := L2.V.int 1) (by assumption) (by wtm_at "m") T.c_BEACON.choose_spec ⟨_, rfl⟩ ?_) | ((with_reducible show Z.XE _ (PySem.Expr.Name "DOCUMENT" _) _ _ _); refine Z.xe_glob (v := L2.V.int 2) (by assumption) (by wtm_at "m") T.c_DOCUMENT.choose_spec ⟨_, rfl⟩ ?_) | ((with_reducible show Z.XE _ (PySem.Expr.Name "HEAD" _) _ _ _); refine Z.xe_glob (v := L2.V.int 4) (by assumption) (by wtm_at "m") T.c_HEAD.choose_spec ⟨_, rfl⟩ ?_) | ((with_reducible show Z.XE _ (PySem.Expr.Name "RENEWAL" _) _ _ _); refine Z.xe_glob (v := L2.V.int 5) (by assumption) (by wtm_at "m") T.c_RENEWAL.choose_spec ⟨_, rfl⟩ ?_) | ((with_reducible show Z.XE _ (PySem.Expr.Call (PySem.Expr.Name "_is_document" _) (_ :: _) [] _) _ _ _); refine Z.xe_call (by assumption) (Law.ok__is_document T) (by wtm_at "m") (by omega) ?_) | ((with_reducible show Z.XE _ (PySem.Expr.Call (PySem.Expr.Name "_is_head" _) (_ :: _) [] _) _ _ _); refine Z.xe_call (by assumption) (Law.ok__is_head T) (by wtm_at "m") (by omega) ?_) | ((with_reducible show Z.XE _ (PySem.Expr.Call (PySem.Expr.Name "_back_count" _) (_ :: _) [] _) _ _ _); refine Z.xe_call (by assumption) (Law.ok__back_count T) (by wtm_at "m") (by omega) ?_) | fail)
def sp_isdoc (K : PySem.W.Frag) : Sp := fun vs H Q _ => ∃ (p : Addr) (ns : List Int), vs = [.ref p] ∧ SqT K H p (ns.map V.int) ∧ Q (.bl (decide (2 ≤ ns.length ∧ 2 + ns.getD 1 0 ≤ ns.length))) H
theorem ok__is_document (T : Txt P w K mg base) : DefOk P w K mg base "_is_document" ["row"] 1 (sp_isdoc K) := by
  refine DefOk.by T.d__is_document sc__is_document oc__is_document (fun vs H Q E h => ?_) (fun X e1 e2 e3 e4 e5 C H vs Q E h => ?_)
  · obtain ⟨p, ns, rfl, _⟩ := h; rfl
  · obtain ⟨p, ns, rfl, hr, q⟩ := h
    wtm_at "go"
    wtm_at "w"
    rw [List.length_map]
    refine ite_d (fun h => ?_) (fun h => ?_)
    · wtm_at "w"
      refine vx_tup hr (at_getD 1 (by omega)) ?_
      wtm_at "w"
      have e : decide (ns.getD 1 0 ≤ ((ns.map V.int).length : Int) - 2) = decide (2 ≤ ns.length ∧ 2 + ns.getD 1 0 ≤ ns.length) := by
        rw [List.length_map]; apply decide_eq_decide.mpr; omega
      rw [e]; exact q
    · have e : decide ((2 : Int) ≤ (ns.length : Int)) = decide (2 ≤ ns.length ∧ 2 + ns.getD 1 0 ≤ ns.length) := by
        apply decide_eq_decide.mpr; omega
      rw [e]; exact q
def sp_ishead (K : PySem.W.Frag) : Sp := fun vs H Q _ => ∃ (p : Addr) (ns : List Int), vs = [.ref p] ∧ SqT K H p (ns.map V.int) ∧ Q (.bl (decide (6 ≤ ns.length ∧ 1 ≤ ns.getD 4 0 ∧ ns.length = 6 + cntB (ns.getD 2 0)))) H
theorem ok__is_head (T : Txt P w K mg base) : DefOk P w K mg base "_is_head" ["row"] 3 (sp_ishead K) := by
  refine DefOk.by T.d__is_head sc__is_head oc__is_head (fun vs H Q E h => ?_) (fun X e1 e2 e3 e4 e5 C H vs Q E h => ?_)
  · obtain ⟨p, ns, rfl, _⟩ := h; rfl
  · obtain ⟨p, ns, rfl, hr, q⟩ := h
    wtm_at "go"
    wtm_at "w"
    rw [List.length_map]
    refine ite_d (fun h => ?_) (fun h => ?_)
    · wtm_at "w"
      have e : false = decide (6 ≤ ns.length ∧ 1 ≤ ns.getD 4 0 ∧ ns.length = 6 + cntB (ns.getD 2 0)) := by
        symm; apply decide_eq_false; omega
      rw [e]; exact q
    · wtm_at "w"
      refine vx_tup hr (at_getD 2 (by omega)) ?_
      wtm_at "w"
      refine vx_tup hr (at_getD 4 (by omega)) ?_
      wtm_at "w"
      refine ite_d (fun h' => ?_) (fun h' => ?_)
      · wtm_at "w"
        refine ⟨_, rfl, ?_⟩
        wtm_at "w"
        have e : decide ((((ns.map V.int).length : Int) - 6) = (cntB (ns.getD 2 0) : Int)) = decide (6 ≤ ns.length ∧ 1 ≤ ns.getD 4 0 ∧ ns.length = 6 + cntB (ns.getD 2 0)) := by
          rw [List.length_map]; apply decide_eq_decide.mpr; omega
        rw [e]; exact q
      · have e : decide (1 ≤ ns.getD 4 0) = decide (6 ≤ ns.length ∧ 1 ≤ ns.getD 4 0 ∧ ns.length = 6 + cntB (ns.getD 2 0)) := by
          apply decide_eq_decide.mpr; omega
        rw [e]; exact q
def sp_isthing (K : PySem.W.Frag) : Sp := fun vs H Q _ => ∃ (p : Addr) (ns : List Int), vs = [.ref p] ∧ SqT K H p (ns.map V.int) ∧ Q (.bl (isThing ns)) H
theorem ok_is_thing (T : Txt P w K mg base) : DefOk P w K mg base "is_thing" ["row"] 4 (sp_isthing K) := by
  refine DefOk.by T.d_is_thing sc_is_thing oc_is_thing (fun vs H Q E h => ?_) (fun X e1 e2 e3 e4 e5 C H vs Q E h => ?_)
  · obtain ⟨p, ns, rfl, _⟩ := h; rfl
  · obtain ⟨p, ns, rfl, hr, q⟩ := h
    have fin : ∀ b, b = isThing ns → Q (.bl b) H := fun b e => by rw [e]; exact q
    wtm_at "go"
    wtm_at "w"
    refine ite_b (fun h => ?_) (fun h => ?_)
    · wtm_at "w"
      refine fin _ ?_
      have : ns = [] := by simpa using h
      rw [this]; rfl
    · have hl : ns.length ≠ 0 := by
        intro e
        have : ns = [] := List.length_eq_zero_iff.mp e
        rw [this] at h; simp at h
      wtm_at "w"
      refine vx_tup hr (at_getD 0 (by omega)) ?_
      wtm_at "w"
      refine ite_d (fun h1 => ?_) (fun h1 => ?_)
      · wtm_at "w"
        refine fin _ ?_
        unfold isThing
        rw [if_neg hl, if_pos h1, List.length_map]
        apply decide_eq_decide.mpr; omega
      · wtm_at "w"
        refine ite_d (fun h2 => ?_) (fun h2 => ?_)
        · wtm_at "w"
          refine ⟨p, ns, rfl, hr, ?_⟩
          refine fin _ ?_
          unfold isThing
          rw [if_neg hl, if_neg h1, if_pos h2]
        · wtm_at "w"
          refine ite_d (fun h3 => ?_) (fun h3 => ?_)
          · wtm_at "w"
            refine ⟨p, ns, rfl, hr, ?_⟩
            refine fin _ ?_
            unfold isThing
            rw [if_neg hl, if_neg h1, if_neg h2, if_pos h3]
          · wtm_at "w"
            have e : isThing ns = decide (ns.getD 0 0 = 5 ∧ ns.length = 2) := by
              unfold isThing
              rw [if_neg hl, if_neg h1, if_neg h2, if_neg h3]
            refine ite_d (fun h4 => ?_) (fun h4 => ?_)
            · wtm_at "w"
              refine fin _ ?_
              rw [e, List.length_map]
              apply decide_eq_decide.mpr; omega
            · refine fin _ ?_
              rw [e]
              apply decide_eq_decide.mpr; omega
end
/-! kind_of -/
section
local macro_rules | `(tactic| wtm_at "d") => `(tactic| fail)
def sp_kind (K : PySem.W.Frag) : Sp := fun vs H Q _ => ∃ (p : Addr) (ns : List Int), vs = [.ref p] ∧ SqT K H p (ns.map V.int) ∧ 0 < ns.length ∧ Q (.int (ns.getD 0 0)) H
theorem ok_kind_of (T : Txt P w K mg base) : DefOk P w K mg base "kind_of" ["row"] 1 (sp_kind K) := by
  refine DefOk.by T.d_kind_of sc_kind_of oc_kind_of (fun vs H Q E h => ?_) (fun X e1 e2 e3 e4 e5 C H vs Q E h => ?_)
  · obtain ⟨p, ns, rfl, _⟩ := h; rfl
  · obtain ⟨p, ns, rfl, hr, hl, q⟩ := h
    wtm_at "go"
    wtm_at "w"
    exact vx_tup hr (at_getD 0 (by omega)) q
end
/-! _law_digest_l -/
section
local macro_rules | `(tactic| wtm_at "d") => `(tactic| first | ((with_reducible show Z.XE _ (PySem.Expr.Call (PySem.Expr.Name "int" _) (_ :: _) [] _) _ _ _); refine Z.xe_callTy (id := "int") (by assumption) (by wtm_at "m") T.b_int (by decide +kernel) ?_) | ((with_reducible show Z.XE _ (PySem.Expr.Name "int" _) _ _ _); refine Z.xe_ty (id := "int") (by assumption) (by wtm_at "m") T.b_int (by decide +kernel) ?_) | ((with_reducible show Z.XE _ (PySem.Expr.Call (PySem.Expr.Name "len" _) (_ :: _) [] _) _ _ _); refine Z.xe_callB (id := "len") (by assumption) (by wtm_at "m") T.b_len (by decide +kernel) ?_) | fail)
def sp_ldigest (K : PySem.W.Frag) : Sp := fun vs H Q _ => ∃ (p r : Addr) (b f : Int) (ns : List Int), vs = [.ref p, .ref r] ∧ SqL K H p [.int b, .int f] ∧ SqT K H r (ns.map V.int) ∧ 0 < b ∧ Q (.int (dig b f ns)) H
theorem ok__law_digest (T : Txt P w K mg base) : DefOk P w K mg base "_law_digest" ["mix", "row"] 1 (sp_ldigest K) := by
  refine DefOk.by T.d__law_digest sc__law_digest oc__law_digest (fun vs H Q E h => ?_) (fun X e1 e2 e3 e4 e5 C H vs Q E h => ?_)
  · obtain ⟨p, r, b, f, ns, rfl, _⟩ := h; rfl
  · obtain ⟨p, r, b, f, ns, rfl, hm, hr, hb, q⟩ := h
    wtm_at "go"
    wtm_at "w"
    have s0 := mixS_rng f 1 ((ns.map V.int).length : Int)
    have es : (f + ((ns.map V.int).length : Int) + 1) % 2305843009213693951 = mixS f 1 ((ns.map V.int).length : Int) := by unfold mixS; rw [Int.one_mul]; rfl
    refine xs_forT (by assumption) ?_
    wtm_at "w"
    refine ⟨r, _, rfl, hr, fun i σ H' => ∃ vn, σ = [some (.ref p), some (.ref r), some (.int 2305843009213693951), some (.int (mixF f (ns.take i) (mixS f 1 ((ns.map V.int).length : Int)))), vn] ∧ H' = H, ⟨none, by rw [es]; rfl, rfl⟩, ?_, ?_, ?_⟩
    · rintro i σ' H' hi ⟨vn, rfl, rfl⟩
      exact hr
    · rintro i y σ' H' hy ⟨vn, rfl, rfl⟩
      obtain ⟨n, hn, rfl⟩ := map_at hy
      have s1 := mixF_rng (f := f) (ns.take i) _ s0.1 s0.2
      wtm_at "w"
      refine vo_mul (cmulL (mulP s1.1 s1.2)) ?_
      wtm_at "w"
      exact ⟨_, by rw [mixF_take hn]; rfl, rfl⟩
    · rintro σ' H' ⟨vn, rfl, rfl⟩
      have e : (ns.take (ns.map V.int).length) = ns := by rw [List.length_map]; exact List.take_length
      rw [e]
      have s1 := mixF_rng (f := f) ns _ s0.1 s0.2
      wtm_at "w"
      refine vo_mul (cmulR ⟨by decide, by decide⟩) ?_
      wtm_at "w"
      refine vo_mod hb ?_
      have e2 : mixF f ns (mixS f 1 ((ns.map V.int).length : Int)) = mixF f (ns.length :: ns) 1 := by rw [List.length_map]; rfl
      rw [e2]
      exact q
end
/-! _law_mix -/
section
local macro_rules | `(tactic| wtm_at "d") => `(tactic| first | ((with_reducible show Z.XE _ (PySem.Expr.Call (PySem.Expr.Name "_law_draw" _) (_ :: _) [] _) _ _ _); refine Z.xe_call (by assumption) (Law.ok__law_draw T) (by wtm_at "m") (by omega) ?_) | fail)
def sp_lmix : Sp := fun vs H Q _ => ∃ (b r : Addr), vs = [.ref b] ∧ Box H b r ∧ ∀ (p : Addr) (n f : Int) H', Kp [b] H H' → Box H' b r → H p = none → H' p = some (.lst ([n, f].map V.int)) → 2 ≤ n → 2 ≤ f → Q (.ref p) H'
theorem ok__law_mix (T : Txt P w K mg base) : DefOk P w K mg base "_law_mix" ["box"] 3 sp_lmix := by
  refine DefOk.by T.d__law_mix sc__law_mix oc__law_mix (fun vs H Q E h => ?_) (fun X e1 e2 e3 e4 e5 C H vs Q E h => ?_)
  · obtain ⟨b, r, rfl, _⟩ := h; rfl
  · obtain ⟨b, r, rfl, bx, q⟩ := h
    have rest : ∀ (n : Int) (H1 : Hp), 2 ≤ n → Kp [b] H H1 → Box H1 b r → XB X ((defBody s__law_mix).drop 2) (fun _ H' => Q .non H') ⟨Q, fun _ _ => False, fun _ _ => False⟩ [some (.ref b), some (.int n)] H1 := by
      subst e1; subst e2; subst e3; subst e4; subst e5
      intro n H1 n2 k1 b1
      refine xb_cons ?_
      wtm_at "w"
      refine ⟨b, r, 840, rfl, b1, by decide, fun d1 H2 d10 d11 k2 b2 => ?_⟩
      wtm_at "w"
      refine vo_mul (cmulR ⟨by decide, by decide⟩) ?_
      wtm_at "w"
      refine ⟨b, r, 840, rfl, b2, by decide, fun d2 H3 d20 d21 k3 b3 => ?_⟩
      wtm_at "w"
      intro p H4 k4 n4 h4
      have k13 := k2.tr1 k3 (.inl (by simp))
      have k03 := k1.tr k13 (fun l m => .inl m)
      exact q p n _ H4 (k03.tr0 k4) (b3.kp k4) (k03.n _ n4) h4 n2 (by omega)
    wtm_at "go"
    wtm_at "w"
    refine ⟨b, r, 40, rfl, bx, by decide, fun d H1 d0 d1 k1 b1 => ?_⟩
    wtm_at "w"
    refine ⟨b, r, 4, rfl, b1, by decide, fun u H2 u0 u1 k2 b2 => ?_⟩
    have k12 := k1.tr1 k2 (.inl (by simp))
    wtm_at "w"
    refine ite_d (fun _ => ?_) (fun _ => ?_)
    · wtm_at "w"
      intro l H3 k3 n3 h3
      have k13 := k12.tr0 k3
      have b3 := b2.kp k3
      wtm_at "w"
      refine ⟨b, r, 4, rfl, b3, by decide, fun t H4 t0 t1 k4 b4 => ?_⟩
      have h3' : H3 l = some (.lst (([2, 3, 1000, 2305843009213693952] : List Int).map V.int)) := h3
      have h4 := k4.at1 (b3.neInts h3') h3'
      have k14 := k13.tr1 k4 (.inl (by simp))
      obtain ⟨t', rfl⟩ := Int.eq_ofNat_of_zero_le t0
      have ht : t' < 4 := by omega
      have gx : ([2, 3, 1000, 2305843009213693952] : List Int)[t']? = some (([2, 3, 1000, 2305843009213693952] : List Int)[t']) := List.getElem?_eq_getElem (by simpa using ht)
      have g2 : 2 ≤ ([2, 3, 1000, 2305843009213693952] : List Int)[t'] := by
        have : ∀ x ∈ ([2, 3, 1000, 2305843009213693952] : List Int), 2 ≤ x := by decide
        exact this _ (List.getElem_mem _)
      generalize ([2, 3, 1000, 2305843009213693952] : List Int)[t'] = n at gx g2
      clear k3 k1 k2 k12 k13
      refine vx_lst (Z.SqL.of' h4) (at_map_nat gx) ?_
      exact ⟨_, by wtm_at "u", xb_nil (rest n H4 g2 k14 b4)⟩
    · exact xb_nil (rest _ H2 (by omega) k12 b2)
end
/-! _law_pick -/
section
local macro_rules | `(tactic| wtm_at "d") => `(tactic| first | ((with_reducible show Z.XE _ (PySem.Expr.Call (PySem.Expr.Name "len" _) (_ :: _) [] _) _ _ _); refine Z.xe_callB (id := "len") (by assumption) (by wtm_at "m") T.b_len (by decide +kernel) ?_) | ((with_reducible show Z.XE _ (PySem.Expr.Call (PySem.Expr.Name "_law_draw" _) (_ :: _) [] _) _ _ _); refine Z.xe_call (by assumption) (Law.ok__law_draw T) (by wtm_at "m") (by omega) ?_) | fail)
def sp_pick (K : PySem.W.Frag) : Sp := fun vs H Q _ => ∃ (b r p : Addr) (ns : List Int), vs = [.ref b, .ref p] ∧ Box H b r ∧ H p = some (.lst (ns.map V.int)) ∧ 0 < ns.length ∧ ns.length ≤ 100000 ∧ (∀ x ∈ ns, 0 ≤ x) ∧ ∀ (x : Int) H', Kp [b] H H' → Box H' b r → 0 ≤ x → Q (.int x) H'
theorem ok__law_pick (T : Txt P w K mg base) : DefOk P w K mg base "_law_pick" ["box", "numbers"] 3 (sp_pick K) := by
  refine DefOk.by T.d__law_pick sc__law_pick oc__law_pick (fun vs H Q E h => ?_) (fun X e1 e2 e3 e4 e5 C H vs Q E h => ?_)
  · obtain ⟨b, r, p, ns, rfl, _⟩ := h; rfl
  · obtain ⟨b, r, p, ns, rfl, bx, hp, l0, l1, nn, q⟩ := h
    have pb := bx.neInts hp
    wtm_at "go"
    wtm_at "w"
    refine ⟨b, r, 5, rfl, bx, by decide, fun d H1 d0 d1 k1 b1 => ?_⟩
    have h1 := k1.at1 pb hp
    wtm_at "w"
    refine ite_d (fun _ => ?_) (fun _ => ?_)
    · have g0 : ns[0]? = some ns[0] := List.getElem?_eq_getElem l0
      wtm_at "w"
      refine vx_lst (Z.SqL.of' h1) (at_map (by decide) g0) ?_
      wtm_at "w"
      exact q _ H1 k1 b1 (nn _ (List.getElem_mem l0))
    · wtm_at "w"
      refine ⟨b, r, _, rfl, b1, by rw [List.length_map]; omega, fun t H2 t0 t1 k2 b2 => ?_⟩
      have h2 := k2.at1 (b1.neInts h1) h1
      rw [List.length_map] at t1
      obtain ⟨t', rfl⟩ := Int.eq_ofNat_of_zero_le t0
      have ht : t' < ns.length := by omega
      have gx : ns[t']? = some ns[t'] := List.getElem?_eq_getElem ht
      refine vx_lst (Z.SqL.of' h2) (at_map_nat gx) ?_
      wtm_at "w"
      exact q _ H2 (k1.tr1 k2 (.inl (by simp))) b2 (nn _ (List.getElem_mem ht))
end
/-! _law_backs -/
section
local macro_rules | `(tactic| wtm_at "d") => `(tactic| first | ((with_reducible show Z.XE _ (PySem.Expr.Call (PySem.Expr.Name "int" _) (_ :: _) [] _) _ _ _); refine Z.xe_callTy (id := "int") (by assumption) (by wtm_at "m") T.b_int (by decide +kernel) ?_) | ((with_reducible show Z.XE _ (PySem.Expr.Name "int" _) _ _ _); refine Z.xe_ty (id := "int") (by assumption) (by wtm_at "m") T.b_int (by decide +kernel) ?_) | fail)
def sp_lb : Sp := fun vs H Q _ => ∃ n : Int, vs = [.int n] ∧ 0 ≤ n ∧ n < 2 ^ 69 ∧ ∀ p H', Kp [] H H' → H p = none → H' p = some (.lst ((bkTo n (cntB n)).map V.int)) → Q (.ref p) H'
theorem ok__law_backs (T : Txt P w K mg base) : DefOk P w K mg base "_law_backs" ["number"] 1 sp_lb := by
  refine DefOk.by T.d__law_backs sc__law_backs oc__law_backs (fun vs H Q E h => ?_) (fun X e1 e2 e3 e4 e5 C H vs Q E h => ?_)
  · obtain ⟨v, rfl, _⟩ := h; rfl
  · obtain ⟨n, rfl, h0, h1, q⟩ := h
    have hc := cnt_le (m := 69) h0 h1
    wtm_at "go"
    wtm_at "w"
    intro L H2 k2 nL hL
    wtm_at "w"
    refine xs_forR1 (by assumption) (by wtm_at "m") T.b_range ?_
    wtm_at "w"
    refine ⟨70, rfl, by decide, by decide, fun i σ H' => ∃ vt, σ = [some (.int n), some (.ref L), some (.int (2 ^ i)), vt] ∧ Kp [] H H' ∧ H' L = some (.lst ((bkTo n i).map V.int)) ∧ i ≤ cntB n, ⟨_, rfl, k2, hL, by omega⟩, ?_, ?_⟩
    · rintro i σ' H3 hi ⟨vt, rfl, k3, e3, ci⟩
      have pp : (0 : Int) < 2 ^ i := by rw [← cast_pow]; exact_mod_cast Nat.pow_pos (by decide)
      have cl := cnt_lt h0 i
      wtm_at "w"
      refine ite_d (fun h => ?_) (fun h => ?_)
      · wtm_at "w"
        have e : i = cntB n := by
          by_cases z : i < cntB n
          · have := (cl.mp z).1; omega
          · omega
        exact q L H3 k3 nL (by rw [e3, e])
      · wtm_at "w"
        refine vo_mod pp ?_
        wtm_at "w"
        refine ite_nd (fun h' => ?_) (fun h' => ?_)
        · wtm_at "w"
          have e : i = cntB n := by
            by_cases z : i < cntB n
            · exact absurd (cl.mp z).2 h'
            · omega
          exact q L H3 k3 nL (by rw [e3, e])
        · have z : i < cntB n := cl.mpr ⟨by omega, h'⟩
          wtm_at "w"
          refine ⟨e3, szl (by rw [List.length_map, bkTo_len]; omega), fun H4 k4 e4 => ?_⟩
          wtm_at "w"
          refine vo_mul (cmulR ⟨by decide, by decide⟩) ?_
          wtm_at "w"
          refine ⟨_, by rw [Int.pow_succ], k3.tr1 k4 (.inr nL), ?_, z⟩
          rw [e4, bkTo_succ, List.map_append]; rfl
    · rintro σ' H3 ⟨vt, rfl, k3, e3, ci⟩
      have : (70 : Int).toNat = 70 := rfl
      omega
end
/-! _law_half -/
section
local macro_rules | `(tactic| wtm_at "d") => `(tactic| fail)
def sp_half : Sp := fun vs H Q _ => ∃ n : Nat, vs = [.int n] ∧ 2 ≤ n ∧ n ≤ 2 ^ 68 ∧ Q (.int (hf n)) H
theorem ok__law_half (T : Txt P w K mg base) : DefOk P w K mg base "_law_half" ["count"] 1 sp_half := by
  refine DefOk.by T.d__law_half sc__law_half oc__law_half (fun vs H Q E h => ?_) (fun X e1 e2 e3 e4 e5 C H vs Q E h => ?_)
  · obtain ⟨v, rfl, _⟩ := h; rfl
  · obtain ⟨n, rfl, h2, h60, q⟩ := h
    have l60 : (n - 1).log2 < 68 := by
      refine (Nat.pow_lt_pow_iff_right (a := 2) (by decide)).mp ?_
      have := Nat.log2_self_le (n := n - 1) (by omega)
      omega
    have lo := Nat.log2_self_le (n := n - 1) (by omega)
    have hi := Nat.lt_log2_self (n := n - 1)
    wtm_at "go"
    wtm_at "w"
    refine xs_forR1 (by assumption) (by wtm_at "m") T.b_range ?_
    wtm_at "w"
    refine ⟨70, rfl, by decide, by decide, fun t σ H' => ∃ vt, σ = [some (.int n), some (.int ((2 ^ t : Nat) : Int)), vt] ∧ H' = H ∧ t ≤ (n - 1).log2, ⟨_, rfl, rfl, by omega⟩, ?_, ?_⟩
    · rintro t σ' H' ht ⟨vt, rfl, rfl, tl⟩
      have ps : 2 ^ (t + 1) = 2 * 2 ^ t := by rw [Nat.pow_succ, Nat.mul_comm]
      wtm_at "w"
      refine vo_mul (cmulL ⟨by decide, by decide⟩) ?_
      wtm_at "w"
      refine ite_d (fun h => ?_) (fun h => ?_)
      · wtm_at "w"
        have e : t = (n - 1).log2 := by
          have : (n - 1).log2 < t + 1 := (Nat.log2_lt (by omega)).mpr (by omega)
          omega
        have e2 : ((2 ^ t : Nat) : Int) = (hf n : Int) := by rw [e]; rfl
        rw [e2]; exact q
      · wtm_at "w"
        refine vo_mul (cmulL ⟨by decide, by decide⟩) ?_
        wtm_at "w"
        have : t + 1 ≤ (n - 1).log2 := (Nat.le_log2 (by omega)).mpr (by omega)
        exact ⟨_, by rw [ps]; rfl, rfl, this⟩
    · rintro σ' H' ⟨vt, rfl, rfl, tl⟩
      have : (70 : Int).toNat = 70 := rfl
      omega
end
/-! _law_root_l -/
section
local macro_rules | `(tactic| wtm_at "d") => `(tactic| first | ((with_reducible show Z.XE _ (PySem.Expr.Call (PySem.Expr.Name "len" _) (_ :: _) [] _) _ _ _); refine Z.xe_callB (id := "len") (by assumption) (by wtm_at "m") T.b_len (by decide +kernel) ?_) | ((with_reducible show Z.XE _ (PySem.Expr.Call (PySem.Expr.Name "_law_digest" _) (_ :: _) [] _) _ _ _); refine Z.xe_call (by assumption) (Law.ok__law_digest T) (by wtm_at "m") (by omega) ?_) | ((with_reducible show Z.XE _ (PySem.Expr.Call (PySem.Expr.Name "_law_half" _) (_ :: _) [] _) _ _ _); refine Z.xe_call (by assumption) (Law.ok__law_half T) (by wtm_at "m") (by omega) ?_) | ((with_reducible show Z.XE _ (PySem.Expr.Call (PySem.Expr.Name "_law_root" _) (_ :: _) [] _) _ _ _); refine Z.xe_call (by assumption) (Law.ok__law_root T) (by wtm_at "m") (by omega) ?_) | fail)
def sp_lroot (d : Nat) (K : PySem.W.Frag) : Sp := fun vs H Q _ => ∃ (m e : Addr) (b f : Int) (es : List Int), vs = [.ref m, .ref e] ∧ SqL K H m [.int b, .int f] ∧ SqL K H e (es.map V.int) ∧ 1 ≤ es.length ∧ es.length ≤ 2 ^ d ∧ 0 < b ∧ ∀ H', Kp [] H H' → Q (.int (rt b f es)) H'
theorem lroot_by (T : Txt P w K mg base) (d : Nat) (h9 : d ≤ 9) (ih : 0 < d → DefOk P w K mg base "_law_root" ["mix", "entries"] (d + 1) (sp_lroot (d - 1) K)) : DefOk P w K mg base "_law_root" ["mix", "entries"] (d + 1 + 1) (sp_lroot d K) := by
  refine DefOk.by T.d__law_root sc__law_root oc__law_root (fun vs H Q E h => ?_) (fun X e1 e2 e3 e4 e5 C H vs Q E h => ?_)
  · obtain ⟨p, e, b, f, es, rfl, _⟩ := h; rfl
  · obtain ⟨p, e, b, f, es, rfl, hm, he, l1, ld, hb, q⟩ := h
    have h512 : es.length ≤ 512 := Nat.le_trans ld (Nat.pow_le_pow_right (by decide) h9)
    wtm_at "go"
    wtm_at "w"
    rw [List.length_map]
    refine ite_d (fun h1 => ?_) (fun h1 => ?_)
    · have h2 : ¬ 2 ≤ es.length := by omega
      wtm_at "w"
      have h0 : es[0]? = some (es.headD 0) := by
        cases es with
        | nil => simp at l1
        | cons x xs => rfl
      refine vx_lst he (at_map (by decide) h0) ?_
      wtm_at "w"
      rw [← rt_one (b := b) (f := f) h2]
      exact q H (Kp.refl _ _)
    · have h2 : 2 ≤ es.length := by omega
      have d0 : 0 < d := by
        cases d with
        | zero => simp at ld; omega
        | succ d => omega
      obtain ⟨d', rfl⟩ : ∃ d', d = d' + 1 := ⟨d - 1, by omega⟩
      have lt := hf_lt h2
      have lp := hf_pos es.length
      wtm_at "w"
      refine ⟨es.length, by rw [List.length_map], h2, by omega, ?_⟩
      wtm_at "w"
      refine xe_call (by assumption) (ih d0) (by wtm_at "m") (by omega) ?_
      wtm_at "w"
      refine vsl_lst he (fun c1 H1 k1 n1 g1 => ?_)
      rw [cut_take _ _ (by rw [List.length_map]; omega), ← List.map_take] at g1
      wtm_at "w"
      refine ⟨p, c1, b, f, _, rfl, k1.lst0 hm, Z.SqL.of' g1, by rw [len_take h2]; omega, by rw [len_take h2]; exact hf_le h2 ld, hb, fun H2 k2 => ?_⟩
      wtm_at "w"
      refine xe_call (by assumption) (ih d0) (by wtm_at "m") (by omega) ?_
      wtm_at "w"
      refine vsl_lst (k2.lst0 (k1.lst0 he)) (fun c2 H3 k3 n3 g3 => ?_)
      rw [cut_drop _ _ (by rw [List.length_map]; omega), ← List.map_drop] at g3
      wtm_at "w"
      refine ⟨p, c2, b, f, _, rfl, k3.lst0 (k2.lst0 (k1.lst0 hm)), Z.SqL.of' g3, by rw [List.length_drop]; omega, by rw [List.length_drop]; exact rest_le h2 ld, hb, fun H4 k4 => ?_⟩
      wtm_at "w"
      intro nd H5 k5 hnd _
      wtm_at "w"
      have k05 := (((k1.tr0 k2).tr0 k3).tr0 k4).tr0 k5
      refine ⟨p, nd, b, f, [3, rt b f (es.take (hf es.length)), rt b f (es.drop (hf es.length))], rfl, k05.lst0 hm, hnd, hb, ?_⟩
      rw [← rt_two h2]
      exact q H5 k05
theorem lroot_ok (T : Txt P w K mg base) : ∀ d, d ≤ 9 → DefOk P w K mg base "_law_root" ["mix", "entries"] (d + 1 + 1) (sp_lroot d K)
  | 0, h => lroot_by T 0 h fun h => absurd h (by omega)
  | d + 1, h => lroot_by T (d + 1) h fun _ => lroot_ok T d (by omega)
theorem ok__law_root (T : Txt P w K mg base) : DefOk P w K mg base "_law_root" ["mix", "entries"] 11 (sp_lroot 9 K) := lroot_ok T 9 (by omega)
end
/-! dictT -/
/-! dicts whose keys are rows; plain tuples -/
section
variable {X : Cx} {σ : St} {H : Hp} {Q : VK} {N Vs Ls G : List Str} {k : Nat} {sc : Scope} {e o i : Expr} {pos p1 : Pos} {D : B3} {nx : St → Hp → Prop} {p q : Addr} {xs ys : List V}
theorem xe_dnewT (h : ∀ p H', Kp [] H H' → H p = none → H' p = some (.dT []) → Q (.ref p) H') : XE X (.Dict [] [] pos) σ H Q := ⟨_, pe_dnewT, new_ h⟩
theorem xs_dputT (C : Ctx X sc N Vs Ls G k) (h : XE X e σ H fun v H1 => XE X o σ H1 fun x H2 => XE X i σ H2 fun y H3 => ∃ (p a : Addr) (kvs : List (List Key × V)) (kk : List Key), x = .ref p ∧ y = .ref a ∧ H3 p = some (.dT kvs) ∧ H3 a = some (.tup (kk.map kV)) ∧ kvs.length < sizeLine ∧ ∀ H', Kp [p] H3 H' → H' p = some (.dT (putK kvs kk v)) → nx σ H')
    (hs : swapsWith e (some (.Subscript o i p1)) pos.line X.env = pure false := by rfl) : XS X (.Assign [.Subscript o i p1] e pos) nx D σ H :=
  ⟨_, ps_dput C.hu XE.pe XE.pe XE.pe hs, XE.mono h fun v H1 h => XE.mono h fun x H2 h => XE.mono h fun y H3 ⟨p, a, kvs, kk, e1, e2, e3, e5, e4, q⟩ => ⟨p, _, e1, .inr ⟨kvs, kk, a, e3, e2, e5, e4, rfl⟩, q _ (Kp.set e3 rfl) upd_same⟩⟩
theorem vo_catP (hx : H p = some (.tup xs)) (hy : H q = some (.tup ys)) (hz : xs.length + ys.length ≤ sizeLine) (h : ∀ r H', Kp [] H H' → H' r = some (.tup (xs ++ ys)) → Q (.ref r) H') : VO X (binaryOp .Add) (.ref p) (.ref q) H Q := by
  refine ⟨_, op_catA, p, q, xs, ys, rfl, rfl, .inl (.inl hx), .inl (.inl hy), hz, fun e => ?_, fun _ e => ?_, fun _ _ r hr => h r _ (Kp.new hr) upd_same⟩
  · subst e; exact h q H (Kp.refl _ _) hy
  · subst e; exact h p H (Kp.refl _ _) (by simpa using hx)
theorem vc_tupLP (hx : SqL X.K H p xs) (h : ∀ p H', Kp [] H H' → H' p = some (.tup xs) → Q (.ref p) H') : VC X (.type "tuple") [.ref p] H Q := ⟨_, call_tuple_of, p, xs, rfl, .inl ⟨hx, fun p hp => h p _ (Kp.new hp) upd_same⟩⟩
end
/-! thsP -/
/-! things by digits: a row and its entries -/
def rowB (h v : Int) : List Int := [1, h, v]
def rowD (cs bs : List Int) : List Int := 2 :: (cs.length : Int) :: (cs ++ bs)
def rowR (d : Int) : List Int := [5, d]
def rowH (n f s k h : Int) (es bs : List Int) : List Int := [4, s, k, h, (es.length : Int), rt n f es] ++ bs
inductive Th (n f : Int) : List Int → List Int → Prop where
  | beacon (h v : Int) (h0 : 0 ≤ h) (v0 : 0 ≤ v) : Th n f (rowB h v) []
  | doc (cs bs : List Int) (c3 : cs.length ≤ 3) (b2 : bs.length ≤ 2) (c0 : ∀ x ∈ cs, 0 ≤ x) (b0 : ∀ x ∈ bs, 0 ≤ x) : Th n f (rowD cs bs) []
  | renew (d : Int) (d0 : 0 ≤ d) : Th n f (rowR d) []
  | head (s k h : Int) (es bs : List Int) (s0 : 0 ≤ s) (s1 : s < 2) (k0 : 0 ≤ k) (k1 : k ≤ 64) (h0 : 0 ≤ h) (e1 : 1 ≤ es.length) (e5 : es.length ≤ 5) (eb : bs.length = cntB k) (e0 : ∀ x ∈ es, 0 ≤ x) (b0 : ∀ x ∈ bs, 0 ≤ x) : Th n f (rowH n f s k h es bs) es
theorem Th.pos {n f : Int} {row es : List Int} (h : Th n f row es) : 0 < row.length := by cases h <;> simp [rowB, rowD, rowR, rowH]
theorem Th.len {n f : Int} {row es : List Int} (h : Th n f row es) : row.length ≤ 100 := by
  cases h with
  | beacon => simp [rowB]
  | doc => simp [rowD]; omega
  | renew => simp [rowR]
  | head s k h es bs s0 s1 k0 k1 h0 e1 e5 eb =>
    have := cnt_le (m := 7) (n := k) k0 (by omega)
    simp [rowH]; omega
theorem Th.el {n f : Int} {row es : List Int} (h : Th n f row es) : es.length ≤ 5 := by
  cases h with
  | beacon => simp
  | doc => simp
  | renew => simp
  | head s k h es bs s0 s1 k0 k1 h0 e1 e5 => exact e5
/-- such a thing at p -/
def ThAt (K : PySem.W.Frag) (H : Hp) (n f : Int) (p : Addr) (t : List Int × List Int) : Prop := ∃ a e : Addr, H p = some (.lst [.ref a, .ref e]) ∧ H a = some (.tup (t.1.map V.int)) ∧ H e = some (.lst (t.2.map V.int)) ∧ Th n f t.1 t.2
theorem ThAt.kp {K : PySem.W.Frag} {H H' : Hp} {n f : Int} {p : Addr} {t : List Int × List Int} (h : ThAt K H n f p t) (k : Kp [] H H') : ThAt K H' n f p t := by
  obtain ⟨a, e, h1, h2, h3, h4⟩ := h
  exact ⟨a, e, k.at0 h1, k.t _ _ h2, k.at0 h3, h4⟩
theorem Box.neRefs {H : Hp} {b r p : Addr} {as : List Addr} (bx : Box H b r) (h : H p = some (.lst (as.map V.ref))) : p ≠ b := by
  intro e
  obtain ⟨i, ns, hb, _, _⟩ := bx
  rw [e, hb] at h
  have h' := HO.lst.inj (Option.some.inj h)
  cases as with
  | nil => cases h'
  | cons x as =>
    cases as with
    | nil => cases h'
    | cons y as => rw [List.map_cons, List.map_cons] at h'; exact nomatch (List.cons.inj (List.cons.inj h').2).1
theorem ThAt.draw {K : PySem.W.Frag} {H H' : Hp} {n f : Int} {p b r : Addr} {t : List Int × List Int} (h : ThAt K H n f p t) (bx : Box H b r) (k : Kp [b] H H') : ThAt K H' n f p t := by
  obtain ⟨a, e, h1, h2, h3, h4⟩ := h
  exact ⟨a, e, k.at1 (bx.neRefs (as := [a, e]) h1) h1, k.t _ _ h2, k.at1 (bx.neInts h3) h3, h4⟩
/-- such things, one behind the other -/
def ThsAt (K : PySem.W.Frag) (H : Hp) (n f : Int) (ps : List Addr) (ts : List (List Int × List Int)) : Prop := ps.length = ts.length ∧ ∀ (i : Nat) (p : Addr) (t : List Int × List Int), ps[i]? = some p → ts[i]? = some t → ThAt K H n f p t
theorem ThsAt.kp {K : PySem.W.Frag} {H H' : Hp} {n f : Int} {ps : List Addr} {ts : List (List Int × List Int)} (h : ThsAt K H n f ps ts) (k : Kp [] H H') : ThsAt K H' n f ps ts := ⟨h.1, fun i p t a c => (h.2 i p t a c).kp k⟩
theorem ThsAt.draw {K : PySem.W.Frag} {H H' : Hp} {n f : Int} {b r : Addr} {ps : List Addr} {ts : List (List Int × List Int)} (h : ThsAt K H n f ps ts) (bx : Box H b r) (k : Kp [b] H H') : ThsAt K H' n f ps ts := ⟨h.1, fun i p t a c => (h.2 i p t a c).draw bx k⟩
theorem ThsAt.nil {K : PySem.W.Frag} {H : Hp} {n f : Int} : ThsAt K H n f [] [] := ⟨rfl, fun i p t a _ => by simp at a⟩
theorem ThsAt.snoc {K : PySem.W.Frag} {H : Hp} {n f : Int} {ps : List Addr} {ts : List (List Int × List Int)} {p : Addr} {t : List Int × List Int} (h : ThsAt K H n f ps ts) (g : ThAt K H n f p t) : ThsAt K H n f (ps ++ [p]) (ts ++ [t]) := by
  refine ⟨by simp [h.1], fun i p' t' a c => ?_⟩
  by_cases hi : i < ps.length
  · rw [List.getElem?_append_left hi] at a
    rw [List.getElem?_append_left (by rw [← h.1]; exact hi)] at c
    exact h.2 i p' t' a c
  · rw [List.getElem?_append_right (by omega)] at a
    rw [List.getElem?_append_right (by rw [← h.1]; omega)] at c
    have i0 : i - ps.length = 0 := by
      have := (List.getElem?_eq_some_iff.mp a).1
      simp at this; omega
    rw [i0] at a
    rw [show i - ts.length = 0 by rw [← h.1]; exact i0] at c
    have e1 : p = p' := by simpa using a
    have e2 : t = t' := by simpa using c
    rw [← e1, ← e2]; exact g
theorem ThsAt.at {K : PySem.W.Frag} {H : Hp} {n f : Int} {ps : List Addr} {ts : List (List Int × List Int)} {i : Nat} {y : V} (h : ThsAt K H n f ps ts) (hy : (ps.map V.ref)[i]? = some y) : ∃ p t, y = .ref p ∧ ps[i]? = some p ∧ ts[i]? = some t ∧ ThAt K H n f p t := by
  rw [List.getElem?_map] at hy
  obtain ⟨p, hp, rfl⟩ := Option.map_eq_some_iff.mp hy
  have hi := (List.getElem?_eq_some_iff.mp hp).1
  have ht : ts[i]? = some (ts[i]'(by rw [← h.1]; exact hi)) := List.getElem?_eq_getElem _
  exact ⟨p, _, rfl, hp, ht, h.2 i p _ hp ht⟩
/-- a thing made since then -/
def ThNew (K : PySem.W.Frag) (H H' : Hp) (n f : Int) (p : Addr) (t : List Int × List Int) : Prop := ∃ a e : Addr, H' p = some (.lst [.ref a, .ref e]) ∧ H' a = some (.tup (t.1.map V.int)) ∧ H' e = some (.lst (t.2.map V.int)) ∧ Th n f t.1 t.2 ∧ H p = none ∧ H e = none
/-- a thing beside M -/
def ThAv (K : PySem.W.Frag) (H : Hp) (n f : Int) (M p : Addr) (t : List Int × List Int) : Prop := ∃ a e : Addr, H p = some (.lst [.ref a, .ref e]) ∧ H a = some (.tup (t.1.map V.int)) ∧ H e = some (.lst (t.2.map V.int)) ∧ Th n f t.1 t.2 ∧ p ≠ M ∧ e ≠ M
theorem ThNew.av {K : PySem.W.Frag} {H H' : Hp} {n f : Int} {M p : Addr} {t : List Int × List Int} {o : HO} (h : ThNew K H H' n f p t) (hM : H M = some o) : ThAv K H' n f M p t := by
  obtain ⟨a, e, h1, h2, h3, h4, h5, h6⟩ := h
  exact ⟨a, e, h1, h2, h3, h4, (ne_of_none hM h5).symm, (ne_of_none hM h6).symm⟩
theorem ThNew.at {K : PySem.W.Frag} {H H' : Hp} {n f : Int} {p : Addr} {t : List Int × List Int} (h : ThNew K H H' n f p t) : ThAt K H' n f p t := by
  obtain ⟨a, e, h1, h2, h3, h4, h5, h6⟩ := h
  exact ⟨a, e, h1, h2, h3, h4⟩
theorem ThAv.at {K : PySem.W.Frag} {H : Hp} {n f : Int} {M p : Addr} {t : List Int × List Int} (h : ThAv K H n f M p t) : ThAt K H n f p t := by
  obtain ⟨a, e, h1, h2, h3, h4, h5, h6⟩ := h
  exact ⟨a, e, h1, h2, h3, h4⟩
theorem ThAv.set {K : PySem.W.Frag} {H H' : Hp} {n f : Int} {M p : Addr} {t : List Int × List Int} (h : ThAv K H n f M p t) (k : Kp [M] H H') : ThAv K H' n f M p t := by
  obtain ⟨a, e, h1, h2, h3, h4, h5, h6⟩ := h
  exact ⟨a, e, k.at1 h5 h1, k.t _ _ h2, k.at1 h6 h3, h4, h5, h6⟩
theorem ThAv.draw {K : PySem.W.Frag} {H H' : Hp} {n f : Int} {M p b r : Addr} {t : List Int × List Int} (h : ThAv K H n f M p t) (bx : Box H b r) (k : Kp [b] H H') : ThAv K H' n f M p t := by
  obtain ⟨a, e, h1, h2, h3, h4, h5, h6⟩ := h
  exact ⟨a, e, k.at1 (bx.neRefs (as := [a, e]) h1) h1, k.t _ _ h2, k.at1 (bx.neInts h3) h3, h4, h5, h6⟩
def ThsAv (K : PySem.W.Frag) (H : Hp) (n f : Int) (M : Addr) (ps : List Addr) (ts : List (List Int × List Int)) : Prop := ps.length = ts.length ∧ ∀ (i : Nat) (p : Addr) (t : List Int × List Int), ps[i]? = some p → ts[i]? = some t → ThAv K H n f M p t
theorem ThsAv.at {K : PySem.W.Frag} {H : Hp} {n f : Int} {M : Addr} {ps : List Addr} {ts : List (List Int × List Int)} (h : ThsAv K H n f M ps ts) : ThsAt K H n f ps ts := ⟨h.1, fun i p t a c => (h.2 i p t a c).at⟩
theorem ThsAv.draw {K : PySem.W.Frag} {H H' : Hp} {n f : Int} {M b r : Addr} {ps : List Addr} {ts : List (List Int × List Int)} (h : ThsAv K H n f M ps ts) (bx : Box H b r) (k : Kp [b] H H') : ThsAv K H' n f M ps ts := ⟨h.1, fun i p t a c => (h.2 i p t a c).draw bx k⟩
theorem ThsAv.set {K : PySem.W.Frag} {H H' : Hp} {n f : Int} {M : Addr} {ps : List Addr} {ts : List (List Int × List Int)} (h : ThsAv K H n f M ps ts) (k : Kp [M] H H') : ThsAv K H' n f M ps ts := ⟨h.1, fun i p t a c => (h.2 i p t a c).set k⟩
theorem ThsAv.nil {K : PySem.W.Frag} {H : Hp} {n f : Int} {M : Addr} : ThsAv K H n f M [] [] := ⟨rfl, fun i p t a _ => by simp at a⟩
theorem ThsAv.snoc {K : PySem.W.Frag} {H : Hp} {n f : Int} {M : Addr} {ps : List Addr} {ts : List (List Int × List Int)} {p : Addr} {t : List Int × List Int} (h : ThsAv K H n f M ps ts) (g : ThAv K H n f M p t) : ThsAv K H n f M (ps ++ [p]) (ts ++ [t]) := by
  refine ⟨by simp [h.1], fun i p' t' a c => ?_⟩
  by_cases hi : i < ps.length
  · rw [List.getElem?_append_left hi] at a
    rw [List.getElem?_append_left (by rw [← h.1]; exact hi)] at c
    exact h.2 i p' t' a c
  · rw [List.getElem?_append_right (by omega)] at a
    rw [List.getElem?_append_right (by rw [← h.1]; omega)] at c
    have i0 : i - ps.length = 0 := by
      have := (List.getElem?_eq_some_iff.mp a).1
      simp at this; omega
    rw [i0] at a
    rw [show i - ts.length = 0 by rw [← h.1]; exact i0] at c
    have e1 : p = p' := by simpa using a
    have e2 : t = t' := by simpa using c
    rw [← e1, ← e2]; exact g
/-! _law_poolP -/
section
local macro_rules | `(tactic| wtm_at "d") => `(tactic| first | ((with_reducible show Z.XE _ (PySem.Expr.Call (PySem.Expr.Name "int" _) (_ :: _) [] _) _ _ _); refine Z.xe_callTy (id := "int") (by assumption) (by wtm_at "m") T.b_int (by decide +kernel) ?_) | ((with_reducible show Z.XE _ (PySem.Expr.Name "int" _) _ _ _); refine Z.xe_ty (id := "int") (by assumption) (by wtm_at "m") T.b_int (by decide +kernel) ?_) | ((with_reducible show Z.XE _ (PySem.Expr.Call (PySem.Expr.Name "_law_draw" _) (_ :: _) [] _) _ _ _); refine Z.xe_call (by assumption) (Law.ok__law_draw T) (by wtm_at "m") (by omega) ?_) | ((with_reducible show Z.XE _ (PySem.Expr.Call (PySem.Expr.Name "_law_digest" _) (_ :: _) [] _) _ _ _); refine Z.xe_call (by assumption) (Law.ok__law_digest T) (by wtm_at "m") (by omega) ?_) | fail)
def sp_pool (K : PySem.W.Frag) : Sp := fun vs H Q _ => ∃ (b r m M : Addr) (n f : Int) (ps : List Addr) (ts : List (List Int × List Int)), vs = [.ref b, .ref m, .ref M] ∧ Box H b r ∧ H m = some (.lst ([n, f].map V.int)) ∧ 0 < n ∧ H M = some (.lst (ps.map V.ref)) ∧ ThsAt K H n f ps ts ∧ ps.length ≤ 1000 ∧
  ∀ (p : Addr) (ns : List Int) H', Kp [b] H H' → Box H' b r → H p = none → H' p = some (.lst (ns.map V.int)) → 0 < ns.length → ns.length ≤ 1001 → (∀ x ∈ ns, 0 ≤ x) → Q (.ref p) H'
theorem ok__law_pool (T : Txt P w K mg base) : DefOk P w K mg base "_law_pool" ["box", "mix", "things"] 3 (sp_pool K) := by
  refine DefOk.by T.d__law_pool sc__law_pool oc__law_pool (fun vs H Q E h => ?_) (fun X e1 e2 e3 e4 e5 C H vs Q E h => ?_)
  · obtain ⟨b, r, m, M, n, f, ps, ts, rfl, _⟩ := h; rfl
  · obtain ⟨b, r, m, M, n, f, ps, ts, rfl, bx, hm, hn, hM, hT, lp, q⟩ := h
    wtm_at "go"
    wtm_at "w"
    refine ⟨b, r, 840, rfl, bx, by decide, fun d H1 d0 d1 k1 b1 => ?_⟩
    have m1 : H1 m = some (.lst [.int n, .int f]) := k1.at1 (bx.neInts hm) hm
    have M1 := k1.at1 (bx.neRefs hM) hM
    have T1 := hT.draw bx k1
    wtm_at "w"
    refine vo_mod hn ?_
    wtm_at "w"
    intro L H2 k2 nL hL
    have x0 := Int.emod_nonneg d (show n ≠ 0 by omega)
    wtm_at "w"
    refine xs_forL (by assumption) ?_
    wtm_at "w"
    refine ⟨M, _, rfl, Z.SqL.of' (k2.at0 M1), fun i σ H' => ∃ (ns : List Int) (v : Option V), σ = [some (.ref b), some (.ref m), some (.ref M), some (.ref L), v] ∧ Kp [] H1 H' ∧ H' L = some (.lst (ns.map V.int)) ∧ ns.length = i + 1 ∧ ∀ x ∈ ns, 0 ≤ x, ⟨[d % n], none, rfl, k2, hL, rfl, by intro x hx; rw [List.mem_singleton.mp hx]; exact x0⟩, ?_, ?_, ?_⟩
    · rintro i σ' H' _ ⟨ns, v, rfl, k, _⟩
      exact Z.SqL.of' (k.at0 M1)
    · rintro i y σ' H3 hy ⟨ns, v, rfl, k3, h3, l3, g3⟩
      obtain ⟨p, t, rfl, hp, ht, a, e, hpp, ha, he, th⟩ := (T1.kp k3).at hy
      have ip : i < ps.length := (List.getElem?_eq_some_iff.mp hp).1
      have m3 := k3.at0 m1
      wtm_at "w"
      refine ⟨m, a, n, f, t.1, rfl, Z.SqL.of' m3, Z.SqT.of' ha, hn, ?_⟩
      have dr := (dig_rng (b := n) (f := f) (ns := t.1) hn).1
      refine ⟨h3, szl (by rw [List.length_map]; omega), fun H4 k4 h4 => ?_⟩
      wtm_at "w"
      refine ⟨ns ++ [dig n f t.1], _, rfl, k3.tr1 k4 (.inr nL), by rw [h4, List.map_append]; rfl, by simp [l3], fun x hx => ?_⟩
      rcases List.mem_append.mp hx with z | z
      · exact g3 x z
      · rw [List.mem_singleton.mp z]; exact dr
    · rintro σ' H3 ⟨ns, v, rfl, k3, h3, l3, g3⟩
      rw [List.length_map] at l3
      wtm_at "w"
      exact q L ns H3 (k1.tr0 k3) (b1.kp k3) (k1.n _ nL) h3 (by omega) (by omega) g3
end
/-! _law_headP -/
section
local macro_rules | `(tactic| wtm_at "d") => `(tactic| first | ((with_reducible show Z.XE _ (PySem.Expr.Call (PySem.Expr.Name "len" _) (_ :: _) [] _) _ _ _); refine Z.xe_callB (id := "len") (by assumption) (by wtm_at "m") T.b_len (by decide +kernel) ?_) | ((with_reducible show Z.XE _ (PySem.Expr.Call (PySem.Expr.Name "tuple" _) (_ :: _) [] _) _ _ _); refine Z.xe_callTy (id := "tuple") (by assumption) (by wtm_at "m") T.b_tuple (by decide +kernel) ?_) | ((with_reducible show Z.XE _ (PySem.Expr.Name "tuple" _) _ _ _); refine Z.xe_ty (id := "tuple") (by assumption) (by wtm_at "m") T.b_tuple (by decide +kernel) ?_) | ((with_reducible show Z.XE _ (PySem.Expr.Call (PySem.Expr.Name "_law_draw" _) (_ :: _) [] _) _ _ _); refine Z.xe_call (by assumption) (Law.ok__law_draw T) (by wtm_at "m") (by omega) ?_) | ((with_reducible show Z.XE _ (PySem.Expr.Call (PySem.Expr.Name "_law_digest" _) (_ :: _) [] _) _ _ _); refine Z.xe_call (by assumption) (Law.ok__law_digest T) (by wtm_at "m") (by omega) ?_) | ((with_reducible show Z.XE _ (PySem.Expr.Call (PySem.Expr.Name "_law_root" _) (_ :: _) [] _) _ _ _); refine Z.xe_call (by assumption) (Law.ok__law_root T) (by wtm_at "m") (by omega) ?_) | ((with_reducible show Z.XE _ (PySem.Expr.Call (PySem.Expr.Name "_law_backs" _) (_ :: _) [] _) _ _ _); refine Z.xe_call (by assumption) (Law.ok__law_backs T) (by wtm_at "m") (by omega) ?_) | ((with_reducible show Z.XE _ (PySem.Expr.Call (PySem.Expr.Name "_law_pick" _) (_ :: _) [] _) _ _ _); refine Z.xe_call (by assumption) (Law.ok__law_pick T) (by wtm_at "m") (by omega) ?_) | fail)
theorem Th.head_of {n f : Int} {row es : List Int} (h : Th n f row es) (e : row.getD 0 0 = 4) : 6 ≤ row.length := by
  cases h with
  | beacon => exact absurd e (by show ¬ (1 : Int) = 4; decide)
  | doc => exact absurd e (by show ¬ (2 : Int) = 4; decide)
  | renew => exact absurd e (by show ¬ (5 : Int) = 4; decide)
  | head => simp [rowH]
/-- rows that are there -/
def MineAt (K : PySem.W.Frag) (H : Hp) (as : List Addr) : Prop := ∀ a ∈ as, ∃ row : List Int, SqT K H a (row.map V.int) ∧ 6 ≤ row.length
theorem MineAt.kp {K : PySem.W.Frag} {H H' : Hp} {A : List Addr} {as : List Addr} (h : MineAt K H as) (k : Kp A H H') : MineAt K H' as := fun a ha => by
  obtain ⟨row, h1, h2⟩ := h a ha
  exact ⟨row, k.tup h1, h2⟩
def sp_head (K : PySem.W.Frag) : Sp := fun vs H Q _ => ∃ (b r m M P : Addr) (n f : Int) (ps : List Addr) (ts : List (List Int × List Int)) (ns : List Int), vs = [.ref b, .ref m, .ref M, .ref P] ∧ Box H b r ∧ H m = some (.lst ([n, f].map V.int)) ∧ 0 < n ∧ H M = some (.lst (ps.map V.ref)) ∧ ThsAt K H n f ps ts ∧ ps.length ≤ 60 ∧ H P = some (.lst (ns.map V.int)) ∧ 0 < ns.length ∧ ns.length ≤ 100000 ∧ (∀ x ∈ ns, 0 ≤ x) ∧
  ∀ (p : Addr) (t : List Int × List Int) H', Kp [b] H H' → Box H' b r → ThNew K H H' n f p t → Q (.ref p) H'
theorem ok__law_head (T : Txt P w K mg base) : DefOk P w K mg base "_law_head" ["box", "mix", "things", "numbers"] 13 (sp_head K) := by
  refine DefOk.by T.d__law_head sc__law_head oc__law_head (fun vs H Q E h => ?_) (fun X e1 e2 e3 e4 e5 C H vs Q E h => ?_)
  · obtain ⟨b, r, m, M, P, n, f, ps, ts, ns, rfl, _⟩ := h; rfl
  · obtain ⟨b, r, m, M, P, n, f, ps, ts, ns, rfl, bx, hm, hn, hM, hT, lp, hP, l0, l1, nn, q⟩ := h
    have rest : ∀ (s : Int) (Mn : Addr) (as : List Addr) (N : Int) (H4 : Hp), 0 ≤ s → s < 2 → as.length ≤ 60 → 0 ≤ N → N ≤ 64 → Kp [b] H H4 → Box H4 b r → H4 m = some (.lst ([n, f].map V.int)) → H4 P = some (.lst (ns.map V.int)) → H4 Mn = some (.lst (as.map V.ref)) → MineAt K H4 as →
        XB X ((defBody s__law_head).drop 4) (fun _ H' => Q .non H') ⟨Q, fun _ _ => False, fun _ _ => False⟩ [some (.ref b), some (.ref m), some (.ref M), some (.ref P), some (.int s), some (.ref Mn), some (.int N), none, none, none, none, none, none, none, none] H4 := by
      subst e1; subst e2; subst e3; subst e4; subst e5
      intro s Mn as N H4 s0 s1 la N0 N1 kH4 b4 m4 P4 n4 g4
      clear hT hm hM hP
      refine xb_cons ?_
      wtm_at "w"
      refine xs_setLc C (by wtm_at "m") (by decide +kernel) rfl (by decide +kernel) ?_
      refine xlc_R1 (Vs' := ["box", "numbers", "k"]) (G' := ["_law_pick"]) (nm := "k") (i := 14) (by assumption) ⟨rfl, by decide +kernel, by decide +kernel, rfl, by decide +kernel, by decide⟩ (by wtm_at "m") T.b_range ?_
      wtm_at "w"
      refine ⟨b, r, 5, rfl, b4, by decide, fun d H5 d0 d1 k5 b5 => ?_⟩
      have m5 := k5.at1 (b4.neInts m4) m4
      have P5 := k5.at1 (b4.neInts P4) P4
      have n5 := k5.at1 (b4.neRefs n4) n4
      have g5 := g4.kp k5
      have kH5 := kH4.tr1 k5 (.inl (by simp))
      clear k5 kH4 m4 P4 n4 g4
      wtm_at "w"
      refine ⟨_, rfl, by omega, by omega, fun E H6 k6 nE eE => ?_⟩
      have nbP := b5.neInts P5
      have nPE : P ≠ E := ne_of_none P5 nE
      have nEH := kH5.n _ nE
      refine ⟨fun t H' => LcI (fun x => 0 ≤ x) H6 b r E t H', .start b5 k6 nE eE, ?_, ?_⟩
      · rintro t H7 ht I7
        refine ⟨_, by wtm_at "u", ?_⟩
        intro s0 H0 c' cl fp C'
        have P7 : H7 P = some (.lst (ns.map V.int)) := I7.2.1.at (by simp [nbP, nPE]) (k6.at0 P5)
        wtm_at "w"
        refine ⟨b, r, P, ns, rfl, I7.2.2.1, P7, l0, l1, nn, fun x H8 k8 b8 x0 => ?_⟩
        obtain ⟨acc, a1, a2, nt, rfl, a3, a4, a5⟩ := I7.sz (by omega) k8
        exact ⟨_, a1, a2, fun H9 k9 e9 => I7.push a4 a5 k8 b8 x0 k9 e9⟩
      · rintro H7 I7
        have kk := I7.kp k6 nE
        obtain ⟨_, _, b7, es, e7, lo, pe⟩ := I7
        have m7 := kk.at1 (b5.neInts m5) m5
        have P7 := kk.at1 nbP P5
        have n7 := kk.at1 (b5.neRefs n5) n5
        have g7 := g5.kp kk
        have kH7 := kH5.tr kk (fun l z => .inl z)
        clear kk k6 kH5 m5 P5 n5 g5
        wtm_at "w"
        intro B H8 k8 nB hB
        have c69 := cnt_le (m := 7) (n := N) N0 (by omega)
        have b8 := b7.kp k8
        wtm_at "w"
        refine xs_forL (by assumption) ?_
        wtm_at "w"
        refine ⟨N, rfl, N0, by omega, fun L3 H9 k9 n9 h9 => ?_⟩
        have nLB : L3 ≠ B := (ne_of_none hB n9).symm
        have hB9 := k9.at0 hB
        have b9 := b8.kp k9
        have k79 : Kp [b] H7 H9 := ((Kp.refl [b] H7).tr0 k8).tr0 k9
        clear k8 k9 b8 hB
        refine ⟨L3, _, rfl, Z.SqL.of' h9, fun i σ H' => ∃ (bs : List Int) (v1 v2 : Option V), σ = [some (.ref b), some (.ref m), some (.ref M), some (.ref P), some (.int s), some (.ref Mn), some (.int N), some (.ref E), some (.ref B), v1, none, v2, none, none, none] ∧ Kp [b] H7 H' ∧ Box H' b r ∧ H' B = some (.lst (bs.map V.int)) ∧ bs.length = i ∧ (∀ x ∈ bs, 0 ≤ x) ∧ H' L3 = some (.lst ((bkTo N (cntB N)).map V.int)), ⟨[], none, none, rfl, k79, b9, hB9, rfl, (fun x hx => nomatch hx), h9⟩, ?_, ?_, ?_⟩
        · rintro i σ' H' _ ⟨bs, v1, v2, rfl, _, _, _, _, _, h⟩
          exact Z.SqL.of' h
        · rintro i y σ' H10 hy ⟨bs, v1, v2, rfl, k10, b10, hB10, lb, gb, h10⟩
          obtain ⟨ea, hea, rfl⟩ := map_at hy
          have ib : i < cntB N := by
            have := (List.getElem?_eq_some_iff.mp hea).1
            rw [bkTo_len] at this; exact this
          have m10 := k10.at1 (b7.neInts m7) m7
          have P10 := k10.at1 (b7.neInts P7) P7
          have n10 := k10.at1 (b7.neRefs n7) n7
          have g10 := g7.kp k10
          wtm_at "w"
          refine xs_setLc C (by wtm_at "m") (by decide +kernel) rfl (by decide +kernel) ?_
          refine xlc_L (Vs' := ["mix", "earlier", "row"]) (G' := ["_law_digest"]) (nm := "row") (i := 10) (by assumption) ⟨rfl, by decide +kernel, by decide +kernel, rfl, by decide +kernel, by decide⟩ ?_
          wtm_at "w"
          refine ⟨Mn, _, rfl, Z.SqL.of' n10, fun F H11 k11 nF eF => ?_⟩
          refine ⟨fun t H' => ∃ fs : List Int, H' F = some (.lst (fs.map V.int)) ∧ fs.length ≤ t ∧ (∀ x ∈ fs, 0 ≤ x) ∧ Kp [] H10 H', ⟨[], eF, Nat.le_refl _, (fun x hx => nomatch hx), k11⟩, ?_, ?_, ?_⟩
          · rintro t H' _ ⟨fs, _, _, _, k⟩
            exact Z.SqL.of' (k.at0 n10)
          · rintro t y H12 hy ⟨fs, h12, lf, gf, k12⟩
            rw [List.getElem?_map] at hy
            obtain ⟨a, ha, rfl⟩ := Option.map_eq_some_iff.mp hy
            have ia := (List.getElem?_eq_some_iff.mp ha).1
            obtain ⟨row, hr, r6⟩ := (g10.kp k12) a (List.mem_of_getElem? ha)
            have m12 := k12.at0 m10
            have dr := (dig_rng (b := n) (f := f) (ns := row) hn).1
            refine ⟨_, by wtm_at "u", ?_⟩
            intro s0 H0 c cl fp C'
            clear k10 k79 k11
            wtm_at "w"
            refine vx_tup hr (at_getD 2 (by omega)) ?_
            wtm_at "w"
            refine ite_d (fun _ => ?_) (fun _ => ?_)
            · intro s0 H0 c cl fp C'
              wtm_at "w"
              refine ⟨m, a, n, f, row, rfl, Z.SqL.of' m12, hr, hn, ?_⟩
              refine ⟨_, h12, szl (by rw [List.length_map]; omega), fun H13 k13 h13 => ⟨fs ++ [dig n f row], by rw [h13, List.map_append]; rfl, by simp; omega, ?_, k12.tr1 k13 (.inr nF)⟩⟩
              intro x hx
              rcases List.mem_append.mp hx with z | z
              · exact gf x z
              · rw [List.mem_singleton.mp z]; exact dr
            · exact ⟨fs, h12, by omega, gf, k12⟩
          · rintro H12 ⟨fs, h12, lf, gf, k12⟩
            have b12 := b10.kp k12
            have B12 := k12.at0 hB10
            have L12 := k12.at0 h10
            have P12 := k12.at0 P10
            have k712 : Kp [b] H7 H12 := k10.tr0 k12
            have nbB := b7.nl nB
            clear k10 k12 k11 k79 m10 P10 n10 hB10 h10 b10
            wtm_at "w"
            refine ite_d (fun h0 => ?_) (fun _ => ?_)
            · wtm_at "w"
              refine ⟨b, r, 9, rfl, b12, by decide, fun u H13 u0 u1 k13 b13 => ?_⟩
              have F13 := k13.at1 (b12.neInts h12) h12
              have B13 := k13.at1 (b12.neInts B12) B12
              have L13 := k13.at1 (b12.neInts L12) L12
              have P13 := k13.at1 (b12.neInts P12) P12
              have k713 : Kp [b] H7 H13 := k712.tr1 k13 (.inl (by simp))
              clear k13 k712 h12 B12 L12 P12 b12
              wtm_at "w"
              refine ite_d (fun _ => ?_) (fun _ => ?_)
              · have lf0 : 0 < fs.length := by rw [List.length_map] at h0; omega
                obtain ⟨x, hx⟩ : ∃ x, fs.getLast? = some x := by
                  cases hg : fs.getLast? with
                  | none => rw [List.getLast?_eq_none_iff.mp hg] at lf0; simp at lf0
                  | some x => exact ⟨x, rfl⟩
                have x0 := gf x (List.mem_of_getLast? hx)
                have gv : (fs.map V.int).getLast? = some (.int x) := by rw [List.getLast?_map, hx]; rfl
                wtm_at "w"
                refine vx_lst (Z.SqL.of' F13) (at_getLast gv) ?_
                refine ⟨B13, szl (by rw [List.length_map]; omega), fun HX kX hX => ?_⟩
                wtm_at "w"
                refine ⟨bs ++ [x], _, _, rfl, k713.tr1 kX (.inr nB), b13.kp1 kX nbB, by rw [hX, List.map_append]; rfl, by simp [lb], ?_, kX.at1 nLB L13⟩
                intro x' hx'
                rcases List.mem_append.mp hx' with z | z
                · exact gb x' z
                · rw [List.mem_singleton.mp z]; exact x0
              · wtm_at "w"
                refine ⟨b, r, P, ns, rfl, b13, P13, l0, l1, nn, fun x HY kY bY x0 => ?_⟩
                have BY := kY.at1 (b13.neInts B13) B13
                have LY := kY.at1 (b13.neInts L13) L13
                refine ⟨BY, szl (by rw [List.length_map]; omega), fun HX kX hX => ?_⟩
                wtm_at "w"
                refine ⟨bs ++ [x], _, _, rfl, (k713.tr1 kY (.inl (by simp))).tr1 kX (.inr nB), bY.kp1 kX nbB, by rw [hX, List.map_append]; rfl, by simp [lb], ?_, kX.at1 nLB LY⟩
                intro x' hx'
                rcases List.mem_append.mp hx' with z | z
                · exact gb x' z
                · rw [List.mem_singleton.mp z]; exact x0
            · wtm_at "w"
              refine ⟨b, r, P, ns, rfl, b12, P12, l0, l1, nn, fun x HY kY bY x0 => ?_⟩
              have BY := kY.at1 (b12.neInts B12) B12
              have LY := kY.at1 (b12.neInts L12) L12
              refine ⟨BY, szl (by rw [List.length_map]; omega), fun HX kX hX => ?_⟩
              wtm_at "w"
              refine ⟨bs ++ [x], _, _, rfl, (k712.tr1 kY (.inl (by simp))).tr1 kX (.inr nB), bY.kp1 kX nbB, by rw [hX, List.map_append]; rfl, by simp [lb], ?_, kX.at1 nLB LY⟩
              intro x' hx'
              rcases List.mem_append.mp hx' with z | z
              · exact gb x' z
              · rw [List.mem_singleton.mp z]; exact x0
        · rintro σ' H10 ⟨bs, v1, v2, rfl, k10, b10, hB10, lb, gb, h10⟩
          rw [List.length_map, bkTo_len] at lb
          have m10 := k10.at1 (b7.neInts m7) m7
          have e10 := k10.at1 (b7.neInts e7) e7
          have kH10 := kH7.tr k10 (fun l z => .inl z)
          clear k10 k79 kH7 m7 P7 n7 e7
          wtm_at "w"
          refine vo_mul (cmulL (by decide)) ?_
          wtm_at "w"
          refine ⟨b, r, 3, rfl, b10, by decide, fun u H11 u0 u1 k11 b11 => ?_⟩
          have m11 := k11.at1 (b10.neInts m10) m10
          have e11 := k11.at1 (b10.neInts e10) e10
          have B11 := k11.at1 (b10.neInts hB10) hB10
          have kH11 := kH10.tr1 k11 (.inl (by simp))
          clear k11 kH10 m10 e10 hB10 h10 b10
          wtm_at "w"
          refine ⟨m, E, n, f, es, rfl, Z.SqL.of' m11, Z.SqL.of' e11, by omega, by omega, hn, fun H12 k12 => ?_⟩
          wtm_at "w"
          intro tp H13 k13 _ htp
          have k1113 := k12.tr0 k13
          have B13 := k1113.at0 B11
          have e13 := k1113.at0 e11
          have b13 := b11.kp k1113
          have kH13 := kH11.tr0 k1113
          have htp' : H13 tp = some (.tup (([4, s, N, 3 * N + u, (es.length : Int), rt n f es] : List Int).map V.int)) := by
            rw [List.length_map] at htp; exact htp
          clear htp k12 k13 k1113 kH11 m11 e11 B11 b11
          wtm_at "w"
          refine vc_tupLP (Z.SqL.of' B13) (fun tb H14 k14 htb => ?_)
          refine vo_catP (k14.t _ _ htp') htb (sz_ (by simp; omega)) (fun ra H15 k15 hra => ?_)
          rw [← List.map_append] at hra
          wtm_at "w"
          intro pr H16 k16 npr hpr
          have k1316 := (k14.tr0 k15).tr0 k16
          have l15 : 1 ≤ es.length ∧ es.length ≤ 5 := by omega
          exact q pr (rowH n f s N (3 * N + u) es bs, es) H16 (kH13.tr0 k1316) (b13.kp k1316) ⟨ra, E, hpr, k16.t _ _ hra, k1316.at0 e13, .head s N _ es bs s0 s1 N0 N1 (by omega) l15.1 l15.2 lb pe gb, ((kH13.tr0 k14).tr0 k15).n _ npr, nEH⟩
    wtm_at "go"
    wtm_at "w"
    refine ⟨b, r, 2, rfl, bx, by decide, fun s H1 s0 s1 k1 b1 => ?_⟩
    have m1 := k1.at1 (bx.neInts hm) hm
    have M1 := k1.at1 (bx.neRefs hM) hM
    have P1 := k1.at1 (bx.neInts hP) hP
    have T1 := hT.draw bx k1
    wtm_at "w"
    refine xs_setLc C (by wtm_at "m") (by decide +kernel) rfl (by decide +kernel) ?_
    refine xlc_L (Vs' := ["service", "thing"]) (G' := []) (nm := "thing") (i := 13) (by assumption) ⟨rfl, by decide +kernel, by decide +kernel, rfl, by decide +kernel, by decide⟩ ?_
    wtm_at "w"
    refine ⟨M, _, rfl, Z.SqL.of' M1, fun Mn H2 k2 nMn eMn => ?_⟩
    refine ⟨fun t H' => ∃ as : List Addr, H' Mn = some (.lst (as.map V.ref)) ∧ as.length ≤ t ∧ MineAt X.K H' as ∧ Kp [] H1 H', ⟨[], eMn, Nat.le_refl _, (fun a ha => nomatch ha), k2⟩, ?_, ?_, ?_⟩
    · rintro t H' _ ⟨as, _, _, _, k⟩
      exact Z.SqL.of' (k.at0 M1)
    · rintro t y H3 hy ⟨as, h3, l3, g3, k3⟩
      obtain ⟨p, tt, rfl, hp, ht, a, e, hpp, ha, he, th⟩ := (T1.kp k3).at hy
      have ha := Z.SqT.of' (K := X.K) ha
      have ip : t < ps.length := (List.getElem?_eq_some_iff.mp hp).1
      have tp := th.pos
      refine ⟨_, by wtm_at "u", ?_⟩
      intro s0 H0 c' cl fp C'
      wtm_at "w"
      refine vx_tup ha (at_getD 0 (by omega)) ?_
      wtm_at "w"
      refine ite_d (fun h4 => ?_) (fun _ => ?_)
      · have r6 := th.head_of h4
        wtm_at "w"
        refine vx_tup ha (at_getD 1 (by omega)) ?_
        wtm_at "w"
        refine ite_d (fun _ => ?_) (fun _ => ?_)
        · intro s0 H0 c cl fp C'
          wtm_at "w"
          refine ⟨_, h3, szl (by rw [List.length_map]; omega), fun H4 k4 h4' => ⟨as ++ [a], by rw [h4', List.map_append]; rfl, by simp; omega, ?_, k3.tr1 k4 (.inr nMn)⟩⟩
          intro a' ha'
          rcases List.mem_append.mp ha' with z | z
          · exact g3.kp k4 a' z
          · rw [List.mem_singleton.mp z]; exact ⟨tt.1, k4.tup ha, r6⟩
        · exact ⟨as, h3, by omega, g3, k3⟩
      · wtm_at "w"
        exact ⟨as, h3, by omega, g3, k3⟩
    · rintro H3 ⟨as, h3, l3, g3, k3⟩
      rw [List.length_map] at l3
      have b3 := b1.kp k3
      have m3 := k3.at0 m1
      have P3 := k3.at0 P1
      have kH3 := k1.tr0 k3
      clear k3 k2 k1 eMn hm hM hP m1 M1 P1
      wtm_at "w"
      refine ⟨b, r, 6, rfl, b3, by decide, fun d H4 d0 d1 k4 b4 => ?_⟩
      have m4 := k4.at1 (b3.neInts m3) m3
      have P4 := k4.at1 (b3.neInts P3) P3
      have n4 := k4.at1 (b3.neRefs h3) h3
      have g4 := g3.kp k4
      have kH4 := kH3.tr1 k4 (.inl (by simp))
      wtm_at "w"
      refine ite_d (fun _ => ?_) (fun _ => ?_)
      · wtm_at "w"
        refine ⟨b, r, 9, rfl, b4, by decide, fun u H5 u0 u1 k5 b5 => ?_⟩
        exact ⟨_, by wtm_at "u", xb_nil (rest s Mn as u H5 s0 s1 (by omega) u0 (by omega) (kH4.tr1 k5 (.inl (by simp))) b5 (k5.at1 (b4.neInts m4) m4) (k5.at1 (b4.neInts P4) P4) (k5.at1 (b4.neRefs n4) n4) (g4.kp k5))⟩
      · exact xb_nil (rest s Mn as _ H4 s0 s1 (by omega) (by omega) (by rw [List.length_map]; omega) kH4 b4 m4 P4 n4 g4)
end
/-! _law_thingP -/
section
local macro_rules | `(tactic| wtm_at "d") => `(tactic| first | ((with_reducible show Z.XE _ (PySem.Expr.Call (PySem.Expr.Name "len" _) (_ :: _) [] _) _ _ _); refine Z.xe_callB (id := "len") (by assumption) (by wtm_at "m") T.b_len (by decide +kernel) ?_) | ((with_reducible show Z.XE _ (PySem.Expr.Call (PySem.Expr.Name "tuple" _) (_ :: _) [] _) _ _ _); refine Z.xe_callTy (id := "tuple") (by assumption) (by wtm_at "m") T.b_tuple (by decide +kernel) ?_) | ((with_reducible show Z.XE _ (PySem.Expr.Name "tuple" _) _ _ _); refine Z.xe_ty (id := "tuple") (by assumption) (by wtm_at "m") T.b_tuple (by decide +kernel) ?_) | ((with_reducible show Z.XE _ (PySem.Expr.Call (PySem.Expr.Name "_law_draw" _) (_ :: _) [] _) _ _ _); refine Z.xe_call (by assumption) (Law.ok__law_draw T) (by wtm_at "m") (by omega) ?_) | ((with_reducible show Z.XE _ (PySem.Expr.Call (PySem.Expr.Name "_law_pool" _) (_ :: _) [] _) _ _ _); refine Z.xe_call (by assumption) (Law.ok__law_pool T) (by wtm_at "m") (by omega) ?_) | ((with_reducible show Z.XE _ (PySem.Expr.Call (PySem.Expr.Name "_law_pick" _) (_ :: _) [] _) _ _ _); refine Z.xe_call (by assumption) (Law.ok__law_pick T) (by wtm_at "m") (by omega) ?_) | ((with_reducible show Z.XE _ (PySem.Expr.Call (PySem.Expr.Name "_law_head" _) (_ :: _) [] _) _ _ _); refine Z.xe_call (by assumption) (Law.ok__law_head T) (by wtm_at "m") (by omega) ?_) | fail)
def sp_thing (K : PySem.W.Frag) : Sp := fun vs H Q _ => ∃ (b r m M : Addr) (n f : Int) (ps : List Addr) (ts : List (List Int × List Int)), vs = [.ref b, .ref m, .ref M] ∧ Box H b r ∧ H m = some (.lst ([n, f].map V.int)) ∧ 0 < n ∧ H M = some (.lst (ps.map V.ref)) ∧ ThsAt K H n f ps ts ∧ ps.length ≤ 60 ∧
  ∀ (p : Addr) (t : List Int × List Int) H', Kp [b] H H' → Box H' b r → ThNew K H H' n f p t → Q (.ref p) H'
theorem ok__law_thing (T : Txt P w K mg base) : DefOk P w K mg base "_law_thing" ["box", "mix", "things"] 14 (sp_thing K) := by
  refine DefOk.by T.d__law_thing sc__law_thing oc__law_thing (fun vs H Q E h => ?_) (fun X e1 e2 e3 e4 e5 C H vs Q E h => ?_)
  · obtain ⟨b, r, m, M, n, f, ps, ts, rfl, _⟩ := h; rfl
  · obtain ⟨b, r, m, M, n, f, ps, ts, rfl, bx, hm, hn, hM, hT, lp, q⟩ := h
    wtm_at "go"
    wtm_at "w"
    refine ⟨b, r, m, M, n, f, ps, ts, rfl, bx, hm, hn, hM, hT, by omega, fun N ns H1 k1 b1 nN hN l0 l1 nn => ?_⟩
    have m1 := k1.at1 (bx.neInts hm) hm
    have M1 := k1.at1 (bx.neRefs hM) hM
    have T1 := hT.draw bx k1
    clear hm hM hT bx
    wtm_at "w"
    refine ⟨b, r, 9, rfl, b1, by decide, fun kd H2 kd0 kd1 k2 b2 => ?_⟩
    have m2 := k2.at1 (b1.neInts m1) m1
    have M2 := k2.at1 (b1.neRefs M1) M1
    have N2 := k2.at1 (b1.neInts hN) hN
    have T2 := T1.draw b1 k2
    have kH2 : Kp [b] H H2 := k1.tr1 k2 (.inl (by simp))
    clear k1 k2 m1 M1 T1 hN b1
    wtm_at "w"
    refine ite_d (fun _ => ?_) (fun _ => ?_)
    · wtm_at "w"
      refine ⟨b, r, 20, rfl, b2, by decide, fun h H3 h0 h1 k3 b3 => ?_⟩
      wtm_at "w"
      refine ⟨b, r, 840, rfl, b3, by decide, fun v H4 v0 v1 k4 b4 => ?_⟩
      have kH4 := (kH2.tr1 k3 (.inl (by simp))).tr1 k4 (.inl (by simp))
      clear k3 k4 kH2
      wtm_at "w"
      intro tp H5 k5 _ htp
      wtm_at "w"
      intro e H6 k6 ne he
      wtm_at "w"
      intro pr H7 k7 npr hpr
      exact q pr (rowB h v, []) H7 (((kH4.tr0 k5).tr0 k6).tr0 k7) (((b4.kp k5).kp k6).kp k7) ⟨tp, e, hpr, k7.t _ _ (k6.t _ _ htp), k7.at0 he, .beacon h v h0 v0, ((kH4.tr0 k5).tr0 k6).n _ npr, (kH4.tr0 k5).n _ ne⟩
    · wtm_at "w"
      refine ite_d (fun _ => ?_) (fun _ => ?_)
      · wtm_at "w"
        refine xs_setLc C (by wtm_at "m") (by decide +kernel) rfl (by decide +kernel) ?_
        refine xlc_R1 (Vs' := ["box", "numbers", "k"]) (G' := ["_law_pick"]) (nm := "k") (i := 7) (by assumption) ⟨rfl, by decide +kernel, by decide +kernel, rfl, by decide +kernel, by decide⟩ (by wtm_at "m") T.b_range ?_
        wtm_at "w"
        refine ⟨b, r, 4, rfl, b2, by decide, fun c H3 c0 c1 k3 b3 => ?_⟩
        have N3 := k3.at1 (b2.neInts N2) N2
        have kH3 := kH2.tr1 k3 (.inl (by simp))
        clear k3 kH2 m2 M2 T2 N2 b2
        wtm_at "w"
        refine ⟨_, rfl, by omega, by omega, fun L H4 k4 nL eL => ?_⟩
        have nbN := b3.neInts N3
        have nNL : N ≠ L := ne_of_none N3 nL
        refine ⟨fun t H' => LcI (fun x => 0 ≤ x) H4 b r L t H', .start b3 k4 nL eL, ?_, ?_⟩
        · rintro t H5 ht I5
          refine ⟨_, by wtm_at "u", ?_⟩
          intro s0 H0 c' cl fp C'
          have N5 : H5 N = some (.lst (ns.map V.int)) := I5.2.1.at (by simp [nbN, nNL]) (k4.at0 N3)
          wtm_at "w"
          refine ⟨b, r, N, ns, rfl, I5.2.2.1, N5, l0, by omega, nn, fun x H8 k8 b8 x0 => ?_⟩
          obtain ⟨acc, a1, a2, nt, rfl, a3, a4, a5⟩ := I5.sz (by omega) k8
          exact ⟨_, a1, a2, fun H9 k9 e9 => I5.push a4 a5 k8 b8 x0 k9 e9⟩
        · rintro H5 I5
          have kk := I5.kp k4 nL
          obtain ⟨_, _, b5, cs, hc5, lc, pc⟩ := I5
          have kH5 := kH3.tr kk (fun l z => .inl z)
          clear kk k4 kH3 N3 b3
          wtm_at "w"
          refine xs_setLc C (by wtm_at "m") (by decide +kernel) rfl (by decide +kernel) ?_
          refine xlc_R1 (Vs' := ["box", "k"]) (G' := ["_law_draw"]) (nm := "k") (i := 7) (by assumption) ⟨rfl, by decide +kernel, by decide +kernel, rfl, by decide +kernel, by decide⟩ (by wtm_at "m") T.b_range ?_
          wtm_at "w"
          refine ⟨b, r, 3, rfl, b5, by decide, fun d H6 d0 d1 k6 b6 => ?_⟩
          have hc6 := k6.at1 (b5.neInts hc5) hc5
          have kH6 := kH5.tr1 k6 (.inl (by simp))
          clear k6 kH5 hc5 b5
          wtm_at "w"
          refine ⟨_, rfl, by omega, by omega, fun B H7 k7 nB eB => ?_⟩
          have nbL := b6.neInts hc6
          have nLB : L ≠ B := ne_of_none hc6 nB
          refine ⟨fun t H' => LcI (fun x => 0 ≤ x) H7 b r B t H', .start b6 k7 nB eB, ?_, ?_⟩
          · rintro t H8 ht I8
            refine ⟨_, by wtm_at "u", ?_⟩
            intro s0 H0 c' cl fp C'
            wtm_at "w"
            refine ⟨b, r, 840, rfl, I8.2.2.1, by decide, fun x H9 x0 x1 k9 b9 => ?_⟩
            obtain ⟨acc, a1, a2, nt, rfl, a3, a4, a5⟩ := I8.sz (by omega) k9
            exact ⟨_, a1, a2, fun H10 k10 e10 => I8.push a4 a5 k9 b9 x0 k10 e10⟩
          · rintro H8 I8
            have kk := I8.kp k7 nB
            obtain ⟨_, _, b8, bs, hb8, lb, pb⟩ := I8
            have hc8 := kk.at1 nbL hc6
            have kH8 := kH6.tr kk (fun l z => .inl z)
            clear kk k7 kH6 hc6 b6
            have lc3 : cs.length ≤ 3 := by omega
            have lb2 : bs.length ≤ 2 := by omega
            wtm_at "w"
            intro tp H9 k9 _ htp
            have htp' : H9 tp = some (.tup (([2, (cs.length : Int)] : List Int).map V.int)) := by
              rw [List.length_map] at htp; exact htp
            have hc9 := k9.at0 hc8
            have hb9 := k9.at0 hb8
            have b9 := b8.kp k9
            have kH9 := kH8.tr0 k9
            clear htp k9 kH8 hc8 hb8 b8
            wtm_at "w"
            refine vc_tupLP (Z.SqL.of' hc9) (fun tc H10 k10 htc => ?_)
            refine vo_catP (k10.t _ _ htp') htc (sz_ (by simp; omega)) (fun t1 H11 k11 h1 => ?_)
            rw [← List.map_append] at h1
            have hb11 := k11.at0 (k10.at0 hb9)
            have b11 := (b9.kp k10).kp k11
            have kH11 := (kH9.tr0 k10).tr0 k11
            clear k10 k11 kH9 hb9 b9 htp' htc hc9
            wtm_at "w"
            refine vc_tupLP (Z.SqL.of' hb11) (fun tb H12 k12 htb => ?_)
            refine vo_catP (k12.t _ _ h1) htb (sz_ (by simp; omega)) (fun t2 H13 k13 h2 => ?_)
            rw [← List.map_append] at h2
            have b13 := (b11.kp k12).kp k13
            have kH13 := (kH11.tr0 k12).tr0 k13
            clear k12 k13 kH11 hb11 b11 htb h1
            wtm_at "w"
            intro e H14 k14 ne he
            wtm_at "w"
            intro pr H15 k15 npr hpr
            exact q pr (rowD cs bs, []) H15 ((kH13.tr0 k14).tr0 k15) ((b13.kp k14).kp k15) ⟨t2, e, hpr, k15.t _ _ (k14.t _ _ h2), k15.at0 he, .doc cs bs lc3 lb2 pc pb, (kH13.tr0 k14).n _ npr, kH13.n _ ne⟩
      · wtm_at "w"
        refine ite_d (fun _ => ?_) (fun _ => ?_)
        · wtm_at "w"
          refine ⟨b, r, N, ns, rfl, b2, N2, l0, by omega, nn, fun x H3 k3 b3 x0 => ?_⟩
          have kH3 := kH2.tr1 k3 (.inl (by simp))
          clear k3 kH2 m2 M2 T2 N2 b2
          wtm_at "w"
          intro tp H5 k5 _ htp
          wtm_at "w"
          intro e H6 k6 ne he
          wtm_at "w"
          intro pr H7 k7 npr hpr
          exact q pr (rowR x, []) H7 (((kH3.tr0 k5).tr0 k6).tr0 k7) (((b3.kp k5).kp k6).kp k7) ⟨tp, e, hpr, k7.t _ _ (k6.t _ _ htp), k7.at0 he, .renew x x0, ((kH3.tr0 k5).tr0 k6).n _ npr, (kH3.tr0 k5).n _ ne⟩
        · wtm_at "w"
          refine ⟨b, r, m, M, N, n, f, ps, ts, ns, rfl, b2, m2, hn, M2, T2, lp, N2, l0, by omega, nn, fun p t H3 k3 b3 hp => ?_⟩
          obtain ⟨a', e', g1, g2, g3, g4, g5, g6⟩ := hp
          exact q p t H3 (kH2.tr k3 (fun l z => .inl z)) b3 ⟨a', e', g1, g2, g3, g4, kH2.n _ g5, kH2.n _ g6⟩
end
/-! _law_thingsP -/
section
local macro_rules | `(tactic| wtm_at "d") => `(tactic| first | ((with_reducible show Z.XE _ (PySem.Expr.Call (PySem.Expr.Name "_law_thing" _) (_ :: _) [] _) _ _ _); refine Z.xe_call (by assumption) (Law.ok__law_thing T) (by wtm_at "m") (by omega) ?_) | fail)
def sp_things (K : PySem.W.Frag) : Sp := fun vs H Q _ => ∃ (b r m : Addr) (n f : Int) (k : Nat), vs = [.ref b, .ref m, .int k] ∧ Box H b r ∧ H m = some (.lst ([n, f].map V.int)) ∧ 0 < n ∧ k ≤ 60 ∧
  ∀ (M : Addr) (ps : List Addr) (ts : List (List Int × List Int)) H', Kp [b] H H' → Box H' b r → H M = none → H' M = some (.lst (ps.map V.ref)) → ThsAt K H' n f ps ts → ps.length = k → Q (.ref M) H'
theorem ok__law_things (T : Txt P w K mg base) : DefOk P w K mg base "_law_things" ["box", "mix", "many"] 15 (sp_things K) := by
  refine DefOk.by T.d__law_things sc__law_things oc__law_things (fun vs H Q E h => ?_) (fun X e1 e2 e3 e4 e5 C H vs Q E h => ?_)
  · obtain ⟨b, r, m, n, f, k, rfl, _⟩ := h; rfl
  · obtain ⟨b, r, m, n, f, k, rfl, bx, hm, hn, hk, q⟩ := h
    wtm_at "go"
    wtm_at "w"
    intro M H1 k1 nM hM
    wtm_at "w"
    refine xs_forR1 (by assumption) (by wtm_at "m") T.b_range ?_
    wtm_at "w"
    refine ⟨_, rfl, by omega, by omega, fun i σ H' => ∃ (ps : List Addr) (ts : List (List Int × List Int)) (v : Option V), σ = [some (.ref b), some (.ref m), some (.int k), some (.ref M), v] ∧ Kp [b] H H' ∧ Box H' b r ∧ H' M = some (.lst (ps.map V.ref)) ∧ ThsAv X.K H' n f M ps ts ∧ ps.length = i, ⟨[], [], none, rfl, (Kp.refl [b] H).tr0 k1, bx.kp k1, hM, .nil, rfl⟩, ?_, ?_⟩
    · rintro i σ' H2 hi ⟨ps, ts, v, rfl, k2, b2, hM2, T2, l2⟩
      have hi' : i < k := hi
      have m2 := k2.at1 (bx.neInts hm) hm
      clear k1
      wtm_at "w"
      refine ⟨b, r, m, M, n, f, ps, ts, rfl, b2, m2, hn, hM2, T2.at, by omega, fun p t H3 k3 b3 hp => ?_⟩
      have M3 := k3.at1 (b2.neRefs hM2) hM2
      have T3 := T2.draw b2 k3
      have rM : r ≠ M := (bx.nl nM).2
      refine ⟨M3, szl (by rw [List.length_map]; omega), fun H4 k4 h4 => ?_⟩
      wtm_at "w"
      have nbM := b2.neRefs hM2
      obtain ⟨bi, bns, hb3, bi0, hr3⟩ := b3
      have b4 : Box H4 b r := ⟨bi, bns, k4.at1 (Ne.symm nbM) hb3, bi0, k4.at1 rM hr3⟩
      exact ⟨ps ++ [p], ts ++ [t], _, rfl, (k2.tr k3 (fun l z => .inl z)).tr1 k4 (.inr nM), b4, by rw [h4, List.map_append]; rfl, (T3.set k4).snoc ((hp.av hM2).set k4), by simp [l2]⟩
    · rintro σ' H2 ⟨ps, ts, v, rfl, k2, b2, hM2, T2, l2⟩
      wtm_at "w"
      exact q M ps ts H2 k2 b2 nM hM2 T2.at l2
end
/-! dvals -/
/-! list(d.values()) -/
theorem kv_vals {kvs : List (Key × V)} {vs : List (Key × Value)} (r : KV kvs vs) : Vals (kvs.map (·.2)) (vs.map (·.2)) := by
  unfold KV at r
  induction r with
  | nil => exact .nil
  | cons h t ih => exact .cons h.2 ih
/-- o.values() -/
def valsOf (o : Expr) (apos mpos : Pos) : Expr := .Call (.Attribute o "values" apos) [] [] mpos
section
variable {X : Cx} {o : Expr} {p pos apos mpos : Pos} {td : TE}
def tListVals (td : TE) : TE := fun σ H Q => td σ H fun x H1 => ∃ a kvs, x = V.ref a ∧ H1 a = some (.dK kvs) ∧ kvs.length ≤ sizeLine ∧ ∀ q, H1 q = none → Q (.ref q) (upd H1 q (.lst (kvs.map (·.2))))
theorem pe_listVals (hc : X.calm = true) (hg : Gl X "list") (hm : X.mg "list" = none) (hd : PE X o td) (hbase : attributeBase o "values" X.env (eval o X.env) = eval o X.env := by rfl) (hline : (apos.endLine == mpos.line) = true := by rfl)
    (hse : starEach [valsOf o apos mpos] X.env = [(false, eval (valsOf o apos mpos) X.env)] := by rfl) :
    PE X (.Call (.Name "list" p) [.Call (.Attribute o "values" apos) [] [] mpos] [] pos) (tListVals td) := by
  refine ⟨fun pins s0 σ H R0 I0 h => ?_⟩
  refine wpAny_Call_Name_kw (ld_blt I0 hg hm (u := .type "list") PyProof.Rows.boot_list ?_ (by first | decide +kernel | decide) (by first | decide +kernel | decide))
  unfold valsOf at hse
  rw [hse]
  refine PySem.callWith_type1 (wpAny_Call_method0_late hbase hline (thn (hd.run pins s0 σ H _ I0 h) fun u0 st1 ⟨x, Hp1, In1, isR, a, kvs, ex, ha, hz, q⟩ => ?_))
  subst ex
  obtain rfl : u0 = Value.ref a := isR
  obtain ⟨_, low, us, kvr, dct⟩ := dk_of In1.hok ha
  have dct0 := dct
  obtain ⟨dob, es0, ep0, ho, ex, hdat, _⟩ := dct0
  refine ⟨"dict", "dict.values", F.plainAttrs_dict, F.slot_dict_values, F.type_dict_values, ⟨dob, ho, ex.1⟩, fun b e => ?_, Calls.callWith_builtin rfl (PySem.evalArgs_none ?_)⟩
  · cases e
    exact ⟨dob, ho, ex.2.1⟩
  refine call_meetsIn F.slot_dict_values ⟨dob, ho, ex.1⟩ F.entry_dict_values (F.args_dict_values_1 _) (meets_dict_values (mixKind X.prog X.w) a low) ⟨⟨us, dct⟩, ?_⟩
  have kept : ∀ b u, st1.heap.get? b = some u → (st1.heap.push { cls := .type "dict_values", data := .fields #[.ref a] }).get? b = some u := fun b u e => Heap.get?_push_of_some _ e
  obtain ⟨es, ep, raw, hsz, hat⟩ := dct.raw
  have hlen : us.length = kvs.length := (KV.length kvr).symm
  have raw1 : (st1.heap.push { cls := .type "dict_values", data := .fields #[.ref a] }).DictRaw a es ep := raw.push _
  show wpAny _ _ _ _ _ _
  refine PySem.W.kdl_call (PySem.KdlSrc.rawValues (r := st1.heap.objs.size) (d := a) (es := es) (ep := ep)) (In1.ok.hd hc) ⟨⟨_, Heap.get?_push_size _ rfl, rfl, rfl⟩, raw1⟩ (by omega) (fun h' tk acc' c' hk hD hacc => ?_)
  obtain ⟨hs2, hi2⟩ := hacc
  have eacc : acc'.toList = us.map (·.2) := by
    apply List.ext_getElem?
    intro i
    by_cases hi : i < es.size
    · have e1 : acc'.toList[i]? = some acc'[i] := by rw [Array.getElem?_toList]; exact Array.getElem?_eq_getElem (by omega)
      obtain ⟨hi', ev⟩ := hi2 i _ (Array.getElem?_eq_getElem (show i < acc'.size by omega))
      have hv : i < us.length := by omega
      have e2 : us[i]? = some (us[i].1, us[i].2) := List.getElem?_eq_getElem hv
      have e3 := (hat i hi _ _ e2).2
      rw [e1, List.getElem?_map, e2, ev, e3]; rfl
    · rw [List.getElem?_eq_none (by rw [Array.length_toList]; omega), List.getElem?_eq_none (by rw [List.length_map]; omega)]
  have sz1 : (st1.heap.push { cls := .type "dict_values", data := .fields #[.ref a] }).objs.size = st1.heap.objs.size + 1 := Heap.size_push _ _
  have le1 : st1.heap.objs.size ≤ (st1.heap.push { cls := .type "dict_values", data := .fields #[.ref a] }).objs.size := by rw [sz1]; omega
  have fr : Hp1 (st1.heap.push { cls := .type "dict_values", data := .fields #[.ref a] }).objs.size = none := In1.hok.fresh le1
  refine ⟨.ref _, upd Hp1 (st1.heap.push { cls := .type "dict_values", data := .fields #[.ref a] }).objs.size (.lst (kvs.map (·.2))), In1.laid (t' := tk) (fun b u e => hk b u (kept b u e)) le1 ⟨by rw [List.length_map]; exact hz, acc'.toList, c', by rw [eacc]; exact kv_vals kvr, hD⟩, rfl, q _ fr⟩
theorem xe_listVals {σ : St} {H : Hp} {Q : VK} {N Vs Ls G : List Str} {k : Nat} {sc : Scope} (C : Ctx X sc N Vs Ls G k) (hg : Mem G "list") (hm : X.mg "list" = none) (h : XE X o σ H fun x H1 => ∃ a kvs, x = V.ref a ∧ H1 a = some (.dK kvs) ∧ kvs.length ≤ sizeLine ∧ ∀ q H', Kp [] H1 H' → H1 q = none → H' q = some (.lst (kvs.map (·.2))) → Q (.ref q) H')
    (hbase : attributeBase o "values" X.env (eval o X.env) = eval o X.env := by rfl) (hline : (apos.endLine == mpos.line) = true := by rfl)
    (hse : starEach [valsOf o apos mpos] X.env = [(false, eval (valsOf o apos mpos) X.env)] := by rfl) : XE X (.Call (.Name "list" p) [.Call (.Attribute o "values" apos) [] [] mpos] [] pos) σ H Q :=
  ⟨_, pe_listVals C.calm (C.gl hg) hm XE.pe hbase hline hse, XE.mono h fun x H1 ⟨a, kvs, e1, e2, e3, q⟩ => ⟨a, kvs, e1, e2, e3, new_ q⟩⟩
end
/-! dicts -/
/-! dicts with numbers for keys; least and greatest -/
section
variable {X : Cx} {σ : St} {H : Hp} {Q : VK} {N Vs Ls G : List Str} {k : Nat} {sc : Scope} {a b e o i : Expr} {pos p1 : Pos} {R : Bool → Hp → Prop} {D : B3} {nx : St → Hp → Prop}
theorem xe_dget (C : Ctx X sc N Vs Ls G k) (h : XE X a σ H fun x H1 => XE X b σ H1 fun y H2 => ∃ p v, x = .ref p ∧ DGet H2 p y (some v) ∧ Q v H2) (hs : NoSl b := by exact fun _ _ => rfl) : XE X (.Subscript a b pos) σ H Q := ⟨_, pe_dget C.hu XE.pe XE.pe hs, h⟩
theorem ix_dict (hu : X.A.units + 1 < cLine) : IxR X (fun x y H Q => ∃ a v, x = .ref a ∧ DGet H a y (some v) ∧ Q v H) := by
  intro ve se pins s0 σ0 H0 x0 y0 v0 u0 Q0 I0 rx ry h hs
  obtain ⟨a, r, rfl, g, q⟩ := h
  have ev : v0 = .ref a := rx
  subst ev
  exact PyProof.Rows.tail_any (dict_typeIs I0 g) PySem.F.slot_dict_getitem.lookup (d_getItem hu I0 g ry fun _ _ I3 e3 => ⟨r, H0, I3, e3, q⟩) hs
theorem vx_dict {p : Addr} {y v : V} (C : Ctx X sc N Vs Ls G k) (g : DGet H p y (some v)) (q : Q v H) : VX X (.ref p) y H Q := ⟨_, ix_dict C.hu, p, v, rfl, g, q⟩
theorem xt_dnotin (C : Ctx X sc N Vs Ls G k) (h : XE X a σ H fun y H1 => XE X b σ H1 fun x H2 => ∃ p o, x = .ref p ∧ DGet H2 p y o ∧ R (!o.isSome) H2) (hb : behindInMarks .NotIn b = false := by rfl) : XT X (.Compare a [.NotIn] [b] pos) σ H R :=
  ⟨_, pt_cmp (pc_dnotin C.hu XE.pe XE.pe) hb, XE.mono h fun y H1 h => XE.mono h fun x H2 ⟨p, o, e1, e2, q⟩ => ⟨p, o, e1, e2, _, rfl, q⟩⟩
theorem xs_dput (C : Ctx X sc N Vs Ls G k) (h : XE X e σ H fun v H1 => XE X o σ H1 fun x H2 => XE X i σ H2 fun y H3 => ∃ (p : Addr) (kvs : List (Key × V)) (kk : Key), x = .ref p ∧ y = kV kk ∧ H3 p = some (.dK kvs) ∧ kvs.length < sizeLine ∧ ∀ H', Kp [p] H3 H' → H' p = some (.dK (putK kvs kk v)) → nx σ H')
    (hs : swapsWith e (some (.Subscript o i p1)) pos.line X.env = pure false := by rfl) : XS X (.Assign [.Subscript o i p1] e pos) nx D σ H :=
  ⟨_, ps_dput C.hu XE.pe XE.pe XE.pe hs, XE.mono h fun v H1 h => XE.mono h fun x H2 h => XE.mono h fun y H3 ⟨p, kvs, kk, e1, e2, e3, e4, q⟩ => ⟨p, _, e1, .inl ⟨kvs, kk, e3, e2, e4, rfl⟩, q _ (Kp.set e3 rfl) upd_same⟩⟩
theorem xe_disp1 (h : ∀ p H1, Kp [] H H1 → H p = none → H1 p = some (.dK []) → XE X a σ H1 fun x H2 => XE X b σ H2 fun y H3 => H3 p = some (.dK []) ∧ ∃ kk : Key, x = kV kk ∧ ∀ H4, Kp [p] H3 H4 → H4 p = some (.dK [(kk, y)]) → Q (.ref p) H4) : XE X (.Dict [some a] [b] pos) σ H Q := by
  refine ⟨_, pe_disp (pps_cons XE.pe XE.pe pps_nil) rfl rfl (fun z => by cases z) (by simp), fun p hp => ?_⟩
  show XE X a σ _ _
  refine XE.mono (h p _ (Kp.new hp) hp upd_same) fun x H2 h => ?_
  show XE X b σ _ _
  refine XE.mono h fun y H3 ⟨e, kk, ek, q⟩ => ?_
  exact ⟨e, [(kk, y)], by rw [ek]; rfl, by simp, q _ (Kp.set e rfl) upd_same⟩
theorem vc_min2 {x y : Int} (C : Ctx X sc N Vs Ls G k) (h : Q (.int (if y < x then y else x)) H) : VC X (.builtin "min") [.int x, .int y] H Q := ⟨_, call_min2 C.calm, x, y, rfl, h⟩
theorem vc_max2 {x y : Int} (C : Ctx X sc N Vs Ls G k) (h : Q (.int (if y > x then y else x)) H) : VC X (.builtin "max") [.int x, .int y] H Q := ⟨_, call_max2 C.calm, x, y, rfl, h⟩
theorem vc_minL {p : Addr} {ns : List Int} (C : Ctx X sc N Vs Ls G k) (hx : SqL X.K H p (ns.map V.int)) (h0 : 0 < ns.length) (h : ∀ m, m ∈ ns → (∀ y, y ∈ ns → m ≤ y) → Q (.int m) H) : VC X (.builtin "min") [.ref p] H Q := ⟨_, cr_min C.calm, p, ns, rfl, hx, h0, h⟩
theorem inV_ints {y : Int} : ∀ ns : List Int, inV (.int y) (ns.map V.int) = decide (y ∈ ns)
  | [] => by simp [inV]
  | n :: ns => by
    have ih := inV_ints (y := y) ns
    unfold inV at ih ⊢
    rw [List.map_cons, List.any_cons, ih]
    by_cases e : n = y
    · simp [eqV, e]
    · have : ¬ y = n := fun z => e z.symm
      simp [eqV, e, this]
theorem vo_notInI {p : Addr} {y : Int} {ns : List Int} (hx : SqL X.K H p (ns.map V.int)) (h : Q (.bl (!decide (y ∈ ns))) H) : VO X (compareOp .NotIn) (.int y) (.ref p) H Q :=
  ⟨_, op_notIn_seq, p, _, rfl, .inl hx, rfl, by simp [flatV], by rw [inV_ints]; exact h⟩
end
/-! dicts2 -/
/-! in a dict; lists of a dict, of a range -/
section
variable {X : Cx} {σ : St} {H : Hp} {Q : VK} {N Vs Ls G : List Str} {k : Nat} {sc : Scope} {a : Expr} {pos p1 p2 p3 : Pos}
theorem op_inDct (hu : X.A.units + 1 < cLine) : OpR X (compareOp .In) (fun x y H Q => ∃ a o, y = .ref a ∧ DGet H a x o ∧ Q (.bl o.isSome) H) := by
  intro pins s0 σ0 H x0 y0 v0 u0 Q0 I rx ry h
  obtain ⟨a, o, rfl, g, q⟩ := h
  have eu : u0 = .ref a := ry
  subst eu
  exact d_in hu I g rx fun s3 I3 => ⟨.bl o.isSome, H, I3, rfl, q⟩
theorem op_notInDct (hu : X.A.units + 1 < cLine) : OpR X (compareOp .NotIn) (fun x y H Q => ∃ a o, y = .ref a ∧ DGet H a x o ∧ Q (.bl (!o.isSome)) H) := by
  intro pins s0 σ0 H x0 y0 v0 u0 Q0 I rx ry h
  obtain ⟨a, o, rfl, g, q⟩ := h
  have eu : u0 = .ref a := ry
  subst eu
  exact d_notIn hu I g rx fun s3 I3 => ⟨.bl (!o.isSome), H, I3, rfl, q⟩
theorem vo_inD {p : Addr} {x : V} {o : Option V} (C : Ctx X sc N Vs Ls G k) (g : DGet H p x o) (q : Q (.bl o.isSome) H) : VO X (compareOp .In) x (.ref p) H Q := ⟨_, op_inDct C.hu, p, o, rfl, g, q⟩
theorem vo_notInD {p : Addr} {x : V} {o : Option V} (C : Ctx X sc N Vs Ls G k) (g : DGet H p x o) (q : Q (.bl (!o.isSome)) H) : VO X (compareOp .NotIn) x (.ref p) H Q := ⟨_, op_notInDct C.hu, p, o, rfl, g, q⟩
theorem vc_listD {p : Addr} {kvs : List (Key × V)} (C : Ctx X sc N Vs Ls G k) (hx : H p = some (.dK kvs)) (h : ∀ r H', Kp [] H H' → H r = none → H' r = some (.lst (kvs.map fun kv => kV kv.1)) → Q (.ref r) H') : VC X (.type "list") [.ref p] H Q := ⟨_, call_list_dK C.calm, p, kvs, rfl, hx, new_ h⟩
theorem xe_listRg (C : Ctx X sc N Vs Ls G k) (hg : Mem G "list") (hm : X.mg "list" = none) (hg' : Mem G "range") (hm' : X.mg "range" = none) (h : XE X a σ H fun x H1 => ∃ n, x = .int n ∧ RgOk 0 n ∧ ∀ q H', Kp [] H1 H' → H1 q = none → H' q = some (.lst (rgV 0 n)) → Q (.ref q) H')
    (na : starEach [a] X.env = (false, eval a X.env) :: starEach [] X.env := by rfl) (nb : starEach [Expr.Call (.Name "range" p2) [a] [] p3] X.env = (false, eval (Expr.Call (.Name "range" p2) [a] [] p3) X.env) :: starEach [] X.env := by rfl) : XE X (.Call (.Name "list" p1) [.Call (.Name "range" p2) [a] [] p3] [] pos) σ H Q :=
  ⟨_, pe_listRg C.calm (C.gl hg) hm (prg_1 (C.gl hg') hm' XE.pe na) nb, XE.mono h fun x H1 ⟨n, e, r, q⟩ => ⟨n, e, r, new_ q⟩⟩
end
theorem rgV_ints (n : Int) : rgV 0 n = ((List.range n.toNat).map fun i => ((i : Nat) : Int)).map V.int := by
  unfold rgV
  rw [List.map_map, Int.sub_zero]
  apply List.map_congr_left
  intro i _
  simp
/-! libF -/
section
local macro_rules | `(tactic| wtm_at "d") => `(tactic| fail)
/-! a library: its mixing, its rows, its heads' entries -/
def libF (m dR dE : Addr) : List (Str × V) := putF "_entries" (.ref dE) (putF "_rows" (.ref dR) (putF "mixing" (.ref m) []))
theorem lib_m (m dR dE : Addr) : (libF m dR dE).lookup ("mixing" : Str) = some (.ref m) := by
  unfold libF; rw [lookup_putF, if_neg (by decide +kernel), lookup_putF, if_neg (by decide +kernel), lookup_putF, if_pos rfl]
theorem lib_r (m dR dE : Addr) : (libF m dR dE).lookup ("_rows" : Str) = some (.ref dR) := by
  unfold libF; rw [lookup_putF, if_neg (by decide +kernel), lookup_putF, if_pos rfl]
theorem lib_e (m dR dE : Addr) : (libF m dR dE).lookup ("_entries" : Str) = some (.ref dE) := by
  unfold libF; rw [lookup_putF, if_pos rfl]
def sp_Library (C : Addr) : Sp := fun vs H Q _ => ∃ (z dx m : Addr), vs = [.ref z, .ref m] ∧ H z = some (.ins C dx []) ∧ ∀ dR dE H', Kp [z] H H' → H' z = some (.ins C dx (libF m dR dE)) → H' dR = some (.dK []) → H' dE = some (.dK []) → dR ≠ dE → H dR = none → H dE = none → Q .non H'
theorem ok_Library (T : Txt P w K mg base) : ClsOk P w K mg base "Library" T.C_Library ["self", "mixing"] 1 (sp_Library T.C_Library) := by
  obtain ⟨f, fd, M, F, b⟩ := T.mk_Library
  refine ⟨f, fd, fnOk_by F sc_Library___init__ oc_Library___init__ (fun vs H Q E h => ?_) (fun X e1 e2 e3 e4 e5 C H vs Q E h => ?_), T.mg_Library, M, b⟩
  · obtain ⟨z, dx, m, rfl, _⟩ := h; rfl
  · obtain ⟨z, dx, m, rfl, h1, q⟩ := h
    wtm_at "go"
    refine xs_fld ?_
    wtm_at "w"
    refine ⟨z, _, dx, _, rfl, h1, T.cl_Library, T.na_Library_mixing, by decide, fun H1 k1 e1 => ?_⟩
    wtm_at "w"
    refine xs_fld ?_
    refine xe_dnewK (fun dR H2 k2 nR hR => ?_)
    wtm_at "w"
    refine ⟨z, _, dx, _, rfl, k2.at0 e1, T.cl_Library, T.na_Library__rows, by show 1 < 1000; decide, fun H3 k3 e3 => ?_⟩
    have zR : z ≠ dR := ne_of_none e1 nR
    have hR3 := k3.at1 (Ne.symm zR) hR
    wtm_at "w"
    refine xs_fld ?_
    refine xe_dnewK (fun dE H4 k4 nE hE => ?_)
    wtm_at "w"
    refine ⟨z, _, dx, _, rfl, k4.at0 e3, T.cl_Library, T.na_Library__entries, by show 2 < 1000; decide, fun H5 k5 e5 => ?_⟩
    have zE : z ≠ dE := ne_of_none e3 nE
    have RE : dR ≠ dE := ne_of_none hR3 nE
    wtm_at "w"
    have kz : Kp [z] H H3 := (k1.tr0 k2).tr1 k3 (.inl (by simp))
    exact q dR dE H5 ((kz.tr0 k4).tr1 k5 (.inl (by simp))) e5 (k5.at1 (Ne.symm zR) (k4.at0 hR3)) (k5.at1 (Ne.symm zE) hE) RE (k1.n _ nR) (kz.n _ nE)
theorem lib_no (m dR dE : Addr) {x : Str} (h1 : ¬ x = ("mixing" : Str)) (h2 : ¬ x = ("_rows" : Str)) (h3 : ¬ x = ("_entries" : Str)) : (libF m dR dE).lookup x = none := by
  unfold libF; rw [lookup_putF, if_neg h3, lookup_putF, if_neg h2, lookup_putF, if_neg h1]; rfl
end
/-! lib_g -/
/-! a library of drawn things -/
theorem Th.thing {n f : Int} {row es : List Int} (h : Th n f row es) : isThing row = true := by
  cases h with
  | beacon h v => simp [isThing, rowB]
  | doc cs bs =>
    unfold isThing rowD
    rw [if_neg (by simp), if_neg (by show ¬ (2 : Int) = 1; decide), if_pos (by rfl)]
    apply decide_eq_true
    refine ⟨by simp, ?_⟩
    show 2 + (cs.length : Int) ≤ _
    simp; omega
  | renew d => simp [isThing, rowR]
  | head s k h es bs s0 s1 k0 k1 h0 e1 e5 eb =>
    unfold isThing rowH
    rw [if_neg (by simp), if_neg (by show ¬ (4 : Int) = 1; decide), if_neg (by show ¬ (4 : Int) = 2; decide), if_pos (by rfl)]
    apply decide_eq_true
    refine ⟨by simp, ?_, ?_⟩
    · show 1 ≤ (es.length : Int); omega
    · show _ = 6 + cntB k
      simp [eb]; omega
theorem Th.hd {n f : Int} {row es : List Int} (h : Th n f row es) (e : row.getD 0 0 = 4) : ∃ (s k hh : Int) (bs : List Int), row = rowH n f s k hh es bs ∧ 1 ≤ es.length ∧ es.length ≤ 5 := by
  cases h with
  | beacon => exact absurd e (by show ¬ (1 : Int) = 4; decide)
  | doc => exact absurd e (by show ¬ (2 : Int) = 4; decide)
  | renew => exact absurd e (by show ¬ (5 : Int) = 4; decide)
  | head s k h es bs s0 s1 k0 k1 h0 e1 e5 eb => exact ⟨s, k, h, bs, rfl, e1, e5⟩
theorem Th.nohd {n f : Int} {row es : List Int} (h : Th n f row es) (e : ¬ row.getD 0 0 = 4) : es = [] := by
  cases h with
  | beacon => rfl
  | doc => rfl
  | renew => rfl
  | head s k h es bs => exact absurd (by show (4 : Int) = 4; rfl) e
/-- what is kept by a digest: where it lies, and its numbers -/
def lkA : List (Int × Addr × List Int) → Int → Option (Addr × List Int)
  | [], _ => none
  | p :: r, x => if p.1 = x then some p.2 else lkA r x
def kvR (ks : List (Int × Addr × List Int)) : List (Key × V) := ks.map fun k => (.inl k.1, .ref k.2.1)
theorem valV_kvR (x : Int) : ∀ ks : List (Int × Addr × List Int), valV (kvR ks) (.inl x) = (lkA ks x).map fun z => V.ref z.1
  | [] => rfl
  | p :: r => by
    rw [lkA]
    show valV ((Sum.inl p.1, V.ref p.2.1) :: kvR r) (.inl x) = _
    by_cases e : p.1 = x
    · rw [if_pos e, valV_pos (by rw [e])]; rfl
    · rw [if_neg e, valV_neg (fun z => e (Sum.inl.inj z)), valV_kvR x r]
theorem lkA_mem : ∀ {ks : List (Int × Addr × List Int)} {x : Int} {z : Addr × List Int}, lkA ks x = some z → (x, z) ∈ ks
  | [], x, z, h => nomatch h
  | p :: r, x, z, h => by
    rw [lkA] at h
    by_cases e : p.1 = x
    · rw [if_pos e] at h
      have : p = (x, z) := Prod.ext e (Option.some.inj h)
      rw [this]; exact List.mem_cons_self
    · rw [if_neg e] at h
      exact List.mem_cons_of_mem _ (lkA_mem h)
theorem kvR_app (ks : List (Int × Addr × List Int)) (d : Int) (p : Addr) (r : List Int) : kvR (ks ++ [(d, p, r)]) = kvR ks ++ [(.inl d, .ref p)] := by unfold kvR; rw [List.map_append]; rfl
structure LibAt (K : PySem.W.Frag) (CL CM : Addr) (H : Hp) (a dx mx dR dE : Addr) (n f : Int) (ks qs : List (Int × Addr × List Int)) : Prop where
  ha : H a = some (.ins CL dx (libF mx dR dE))
  hx : Mx CM H mx n f
  hR : H dR = some (.dK (kvR ks))
  hE : H dE = some (.dK (kvR qs))
  ne : dR ≠ dE
  rows : ∀ k ∈ ks, SqT K H k.2.1 (k.2.2.map V.int)
  ents : ∀ k ∈ qs, H k.2.1 = some (.lst (k.2.2.map V.int))
  /-- each known head has its entries -/
  both : ∀ x z, lkA ks x = some z → z.2.getD 0 0 = 4 → ∃ c es bs s k h, lkA qs x = some (c, es) ∧ 1 ≤ es.length ∧ es.length ≤ 5 ∧ z.2 = rowH n f s k h es bs
  only : ∀ x, lkA ks x = none → lkA qs x = none
theorem LibAt.kp {K : PySem.W.Frag} {CL CM : Addr} {H H' : Hp} {a dx mx dR dE : Addr} {n f : Int} {ks qs : List (Int × Addr × List Int)} (h : LibAt K CL CM H a dx mx dR dE n f ks qs) (k : Kp [] H H') : LibAt K CL CM H' a dx mx dR dE n f ks qs :=
  ⟨k.at0 h.ha, h.hx.kp k, k.at0 h.hR, k.at0 h.hE, h.ne, fun z m => k.tup (h.rows z m), fun z m => k.at0 (h.ents z m), h.both, h.only⟩
theorem LibAt.draw {K : PySem.W.Frag} {CL CM : Addr} {H H' : Hp} {a dx mx dR dE b r : Addr} {n f : Int} {ks qs : List (Int × Addr × List Int)} (h : LibAt K CL CM H a dx mx dR dE n f ks qs) (bx : Box H b r) (k : Kp [b] H H') : LibAt K CL CM H' a dx mx dR dE n f ks qs :=
  ⟨bx.other k (fun _ e => nomatch e) h.ha, h.hx.box bx k, bx.other k (fun _ e => nomatch e) h.hR, bx.other k (fun _ e => nomatch e) h.hE, h.ne, fun z m => k.tup (h.rows z m), fun z m => k.at1 (bx.neInts (h.ents z m)) (h.ents z m), h.both, h.only⟩
theorem lkA_app {ks : List (Int × Addr × List Int)} {d x : Int} {p : Addr} {r : List Int} (h : lkA ks d = none) : lkA (ks ++ [(d, p, r)]) x = if d = x then some (p, r) else lkA ks x := by
  induction ks with
  | nil => simp [lkA]
  | cons k ks ih =>
    rw [lkA] at h
    rw [List.cons_append, lkA, lkA]
    by_cases e : k.1 = d
    · rw [if_pos e] at h; cases h
    · rw [if_neg e] at h
      rw [ih h]
      by_cases e2 : k.1 = x
      · rw [if_pos e2, if_pos e2, if_neg (fun z => e (e2.trans z.symm))]
      · rw [if_neg e2, if_neg e2]
theorem cut46 (n f s k h : Int) (es bs : List Int) : cutV ((rowH n f s k h es bs).map V.int) (some 4) (some 6) = [.int (es.length : Int), .int (rt n f es)] := by
  unfold cutV
  have l : ((rowH n f s k h es bs).map V.int).length = 6 + bs.length := by rw [List.length_map]; simp [rowH]; omega
  rw [l]
  rw [show HT.sIx (6 + bs.length) 0 (some 4) = 4 by rw [show (4 : Int) = ((4 : Nat) : Int) from rfl, HT.sIx_nat]; omega, show HT.sIx (6 + bs.length) (6 + bs.length) (some 6) = 6 by rw [show (6 : Int) = ((6 : Nat) : Int) from rfl, HT.sIx_nat]; omega]
  rfl
/-! _are_entries_g -/
section
local macro_rules | `(tactic| wtm_at "d") => `(tactic| first | ((with_reducible show Z.XE _ (PySem.Expr.Call (PySem.Expr.Name "len" _) (_ :: _) [] _) _ _ _); refine Z.xe_callB (id := "len") (by assumption) (by wtm_at "m") T.b_len (by decide +kernel) ?_) | ((with_reducible show Z.XE _ (PySem.Expr.Name "HEAD" _) _ _ _); refine Z.xe_glob (v := L2.V.int 4) (by assumption) (by wtm_at "m") T.c_HEAD.choose_spec ⟨_, rfl⟩ ?_) | ((with_reducible show Z.XE _ (PySem.Expr.Call (PySem.Expr.Name "kind_of" _) (_ :: _) [] _) _ _ _); refine Z.xe_call (by assumption) (Law.ok_kind_of T) (by wtm_at "m") (by omega) ?_) | ((with_reducible show Z.XE _ (PySem.Expr.Call (PySem.Expr.Name "root_of" _) (_ :: _) [] _) _ _ _); refine Z.xe_call (by assumption) (Law.ok_root_of T) (by wtm_at "m") (by omega) ?_) | fail)
def sp_areG (K : PySem.W.Frag) (C : Addr) : Sp := fun vs H Q _ => ∃ (m row e : Addr) (b f : Int) (rs es : List Int), vs = [.ref m, .ref row, .ref e] ∧ Mx C H m b f ∧ SqT K H row (rs.map V.int) ∧ SqL K H e (es.map V.int) ∧ Th b f rs es ∧ 0 < b ∧ ∀ H', Kp [] H H' → Q (.bl true) H'
theorem ok__are_entries (T : Txt P w K mg base) : DefOk P w K mg base "_are_entries" ["mixing", "row", "entries"] 14 (sp_areG K T.C_Mixing) := by
  refine DefOk.by T.d__are_entries sc__are_entries oc__are_entries (fun vs H Q E h => ?_) (fun X e1 e2 e3 e4 e5 C H vs Q E h => ?_)
  · obtain ⟨m, row, e, b, f, rs, es, rfl, _⟩ := h; rfl
  · obtain ⟨m, row, e, b, f, rs, es, rfl, hm, hr, he, th, hb, q⟩ := h
    wtm_at "go"
    wtm_at "w"
    refine ⟨row, _, rfl, hr, th.pos, ?_⟩
    wtm_at "w"
    refine ite_nd (fun h => ?_) (fun h => ?_)
    · have e0 := th.nohd h
      subst e0
      wtm_at "w"
      exact q H (Kp.refl _ _)
    · obtain ⟨s, k, hh, bs, er, l1, l5⟩ := th.hd h
      subst er
      wtm_at "w"
      refine xs_asg ?_
      wtm_at "w"
      refine vsl_tup hr (fun t H1 k1 ht => ?_)
      have ht' : SqT X.K H1 t [.int (es.length : Int), .int (rt b f es)] := by
        have e : cutV ((rowH b f s k hh es bs).map V.int) (some 4) (some 6) = [.int (es.length : Int), .int (rt b f es)] := cut46 _ _ _ _ _ _ _
        rw [e] at ht; exact ht
      refine xg_tup C ⟨t, _, rfl, ht', rfl, ?_⟩
      wtm_at "w"
      try refine vc_lenL (k1.lst0 he) ?_
      wtm_at "w"
      refine ite_b (fun _ => ?_) (fun h => by simp at h)
      wtm_at "w"
      refine ⟨m, e, b, f, es, rfl, hm.kp k1, k1.lst0 he, l1, by omega, hb, fun H2 k2 => ?_⟩
      wtm_at "w"
      have := q H2 (k1.tr0 k2)
      simpa using this
end
/-! put_g -/
section
local macro_rules | `(tactic| wtm_at "d") => `(tactic| first | ((with_reducible show Z.XE _ (PySem.Expr.Call (PySem.Expr.Name "list" _) (_ :: _) [] _) _ _ _); refine Z.xe_callTy (id := "list") (by assumption) (by wtm_at "m") T.b_list (by decide +kernel) ?_) | ((with_reducible show Z.XE _ (PySem.Expr.Name "list" _) _ _ _); refine Z.xe_ty (id := "list") (by assumption) (by wtm_at "m") T.b_list (by decide +kernel) ?_) | ((with_reducible show Z.XE _ (PySem.Expr.Name "HEAD" _) _ _ _); refine Z.xe_glob (v := L2.V.int 4) (by assumption) (by wtm_at "m") T.c_HEAD.choose_spec ⟨_, rfl⟩ ?_) | ((with_reducible show Z.XE _ (PySem.Expr.Call (PySem.Expr.Name "digest_of" _) (_ :: _) [] _) _ _ _); refine Z.xe_call (by assumption) (Law.ok_digest_of T) (by wtm_at "m") (by omega) ?_) | ((with_reducible show Z.XE _ (PySem.Expr.Call (PySem.Expr.Name "is_thing" _) (_ :: _) [] _) _ _ _); refine Z.xe_call (by assumption) (Law.ok_is_thing T) (by wtm_at "m") (by omega) ?_) | ((with_reducible show Z.XE _ (PySem.Expr.Call (PySem.Expr.Name "kind_of" _) (_ :: _) [] _) _ _ _); refine Z.xe_call (by assumption) (Law.ok_kind_of T) (by wtm_at "m") (by omega) ?_) | ((with_reducible show Z.XE _ (PySem.Expr.Call (PySem.Expr.Name "clash_of_entries" _) (_ :: _) [] _) _ _ _); refine Z.xe_call (by assumption) (Law.ok_clash_of_entries T) (by wtm_at "m") (by omega) ?_) | ((with_reducible show Z.XE _ (PySem.Expr.Call (PySem.Expr.Name "_are_entries" _) (_ :: _) [] _) _ _ _); refine Z.xe_call (by assumption) (Law.ok__are_entries T) (by wtm_at "m") (by omega) ?_) | fail)
def sp_putG (K : PySem.W.Frag) (CL CM : Addr) : Sp := fun vs H Q _ => ∃ (a row e mx dR dE dx : Addr) (n f : Int) (rs es : List Int) (ks qs : List (Int × Addr × List Int)), vs = [.ref a, .ref row, .ref e] ∧ LibAt K CL CM H a dx mx dR dE n f ks qs ∧ 0 < n ∧ SqT K H row (rs.map V.int) ∧ H e = some (.lst (es.map V.int)) ∧ Th n f rs es ∧ ks.length ≤ 5000 ∧ qs.length ≤ 5000 ∧
  (lkA ks (dig n f rs) = none → ∀ c H', Kp [dR, dE] H H' → (rs.getD 0 0 = 4 → H c = none) → LibAt K CL CM H' a dx mx dR dE n f (ks ++ [(dig n f rs, row, rs)]) (if rs.getD 0 0 = 4 then qs ++ [(dig n f rs, c, es)] else qs) → Q .non H') ∧
  (∀ z, lkA ks (dig n f rs) = some z → z.2 ≠ rs → ∀ p H', Kp [] H H' → SqT K H' p [.ref z.1, .ref row] → Q (.ref p) H') ∧
  (∀ z, lkA ks (dig n f rs) = some z → z.2 = rs → rs.getD 0 0 ≠ 4 → ∀ H', Kp [] H H' → Q .non H') ∧
  (∀ z y, lkA ks (dig n f rs) = some z → z.2 = rs → rs.getD 0 0 = 4 → lkA qs (dig n f rs) = some y → y.2.length = es.length → rt n f y.2 = rt n f es → 1 ≤ es.length → ∀ v H', Kp [] H H' → Dp K H' v (unD (fdiff (nds n f y.2) (nds n f es))) → Q v H')
theorem ok_put (T : Txt P w K mg base) : MetOk P w K mg base T.C_Library "put" ["self", "row", "entries"] 16 (sp_putG K T.C_Library T.C_Mixing) := by
  obtain ⟨fn, fd, M, F, bi⟩ := T.m_Library_put
  refine ⟨fn, fd, fnOk_by F sc_Library_put oc_Library_put (fun vs H Q E h => ?_) (fun X e1 e2 e3 e4 e5 C H vs Q E h => ?_), M, bi⟩
  · obtain ⟨a, row, e, mx, dR, dE, dx, n, f, rs, es, ks, qs, rfl, _⟩ := h; rfl
  · obtain ⟨a, row, e, mx, dR, dE, dx, n, f, rs, es, ks, qs, rfl, hL, hn, hr, he, th, lk0, lq0, q1, q2, q3, q4⟩ := h
    wtm_at "go"
    wtm_at "w"
    refine ⟨row, _, rfl, hr, ?_⟩
    rw [th.thing]
    wtm_at "w"
    refine xe_fld ?_
    wtm_at "w"
    refine ⟨a, _, dx, _, _, rfl, hL.ha, T.cl_Library, T.na_Library_mixing, lib_m mx dR dE, ?_⟩
    wtm_at "w"
    refine ⟨mx, row, e, n, f, rs, es, rfl, hL.hx, hr, Z.SqL.of' he, th, hn, fun H1 k1 => ?_⟩
    have L1 := hL.kp k1
    have hr1 := k1.tup hr
    have he1 := k1.at0 he
    wtm_at "w"
    refine xe_fld ?_
    wtm_at "w"
    refine ⟨a, _, dx, _, _, rfl, L1.ha, T.cl_Library, T.na_Library_mixing, lib_m mx dR dE, ?_⟩
    wtm_at "w"
    refine ⟨mx, row, n, f, rs, rfl, L1.hx, hr1, hn, ?_⟩
    refine ⟨_, by wtm_at "u", ?_⟩
    refine xb_cons ?_
    refine xs_if ?_
    refine xt_dnotin (by assumption) ?_
    wtm_at "w"
    refine xe_fld ?_
    wtm_at "w"
    refine ⟨a, _, dx, _, _, rfl, L1.ha, T.cl_Library, T.na_Library__rows, lib_r mx dR dE, ?_⟩
    refine ⟨dR, _, rfl, .inl ⟨_, .inl (dig n f rs), .inl L1.hR, rfl, rfl⟩, ?_⟩
    rw [valV_kvR]
    have aR : a ≠ dR := ne_of L1.ha L1.hR (by intro z; cases z)
    have aE : a ≠ dE := ne_of L1.ha L1.hE (by intro z; cases z)
    cases hk : lkA ks (dig n f rs) with
    | none =>
      refine L2.iteT ?_
      refine xb_cons ?_
      refine xs_dput (by assumption) ?_
      wtm_at "w"
      refine xe_fld ?_
      wtm_at "w"
      refine ⟨a, _, dx, _, _, rfl, L1.ha, T.cl_Library, T.na_Library__rows, lib_r mx dR dE, ?_⟩
      wtm_at "w"
      refine ⟨dR, kvR ks, .inl (dig n f rs), rfl, rfl, L1.hR, szl (by unfold kvR; rw [List.length_map]; omega), fun H2 k2 hR2 => ?_⟩
      have vn : valV (kvR ks) (.inl (dig n f rs)) = none := by rw [valV_kvR, hk]; rfl
      rw [putK_new _ vn, ← kvR_app] at hR2
      have ha2 := k2.at1 aR L1.ha
      have hE2 := k2.at1 (Ne.symm L1.ne) L1.hE
      have hr2 := k2.tup hr1
      have he2 := k2.at1 (ne_of he1 L1.hR (by intro z; cases z)) he1
      wtm_at "w"
      refine ⟨row, _, rfl, hr2, th.pos, ?_⟩
      wtm_at "w"
      obtain ⟨dm, hm1⟩ := L1.hx
      have hm2 := k2.at1 (ne_of hm1 L1.hR (by intro z; cases z)) hm1
      have eR2 : ∀ z ∈ qs, H2 z.2.1 = some (.lst (z.2.2.map V.int)) := fun z m => k2.at1 (ne_of (L1.ents z m) L1.hR (by intro z; cases z)) (L1.ents z m)
      have rows2 : ∀ k ∈ ks ++ [(dig n f rs, row, rs)], SqT X.K H2 k.2.1 (k.2.2.map V.int) := by
        intro k m
        rcases List.mem_append.mp m with z | z
        · exact k2.tup (L1.rows k z)
        · rw [List.mem_singleton.mp z]; exact hr2
      refine ite_d (fun h4 => ?_) (fun h4 => ?_)
      · refine xb_cons ?_
        refine xs_dput (by assumption) ?_
        wtm_at "w"
        refine vc_listL (Z.SqL.of' he2) (fun c H3 k3 nc hc => ?_)
        wtm_at "w"
        refine xe_fld ?_
        wtm_at "w"
        have ha3 := k3.at0 ha2
        have hE3 := k3.at0 hE2
        refine ⟨a, _, dx, _, _, rfl, ha3, T.cl_Library, T.na_Library__entries, lib_e mx dR dE, ?_⟩
        wtm_at "w"
        refine ⟨dE, kvR qs, .inl (dig n f rs), rfl, rfl, hE3, szl (by unfold kvR; rw [List.length_map]; omega), fun H4 k4 hE4 => ?_⟩
        have vq : valV (kvR qs) (.inl (dig n f rs)) = none := by rw [valV_kvR, hL.only _ hk]; rfl
        rw [putK_new _ vq, ← kvR_app] at hE4
        wtm_at "w"
        have cE : c ≠ dE := (ne_of_none hE2 nc).symm
        have kk : Kp [dR, dE] H H4 := (((Kp.refl [dR, dE] H).tr0 k1).tr1 k2 (.inl (by simp))).tr0 k3 |>.tr1 k4 (.inl (by simp))
        refine q1 hk c H4 kk (fun _ => k1.n _ (k2.n _ nc)) ?_
        rw [if_pos h4]
        refine ⟨k4.at1 aE ha3, ⟨dm, k4.at1 (ne_of (k3.at0 hm2) hE3 (by intro z; cases z)) (k3.at0 hm2)⟩, k4.at1 L1.ne (k3.at0 hR2), hE4, L1.ne, fun k m => k4.tup (k3.tup (rows2 k m)), ?_, ?_, ?_⟩
        · intro k m
          rcases List.mem_append.mp m with z | z
          · have g3 := k3.at0 (eR2 k z)
            exact k4.at1 (ne_of g3 hE3 (by intro z; cases z)) g3
          · rw [List.mem_singleton.mp z]; exact k4.at1 cE hc
        · intro x z hz h4z
          rw [lkA_app hk] at hz
          rw [lkA_app (hL.only _ hk)]
          by_cases ex : dig n f rs = x
          · rw [if_pos ex] at hz ⊢
            obtain ⟨s, k, hh, bs, er, l1, l5⟩ := th.hd h4
            have : z = (row, rs) := (Option.some.inj hz).symm
            subst this
            exact ⟨c, es, bs, s, k, hh, rfl, l1, l5, er⟩
          · rw [if_neg ex] at hz ⊢
            exact hL.both x z hz h4z
        · intro x hx
          rw [lkA_app hk] at hx
          rw [lkA_app (hL.only _ hk)]
          by_cases ex : dig n f rs = x
          · rw [if_pos ex] at hx; cases hx
          · rw [if_neg ex] at hx ⊢
            exact hL.only x hx
      · wtm_at "w"
        have kk : Kp [dR, dE] H H2 := ((Kp.refl [dR, dE] H).tr0 k1).tr1 k2 (.inl (by simp))
        refine q1 hk row H2 kk (fun z => absurd z h4) ?_
        rw [if_neg h4]
        refine ⟨ha2, ⟨dm, hm2⟩, hR2, hE2, L1.ne, rows2, eR2, ?_, ?_⟩
        · intro x z hz h4z
          rw [lkA_app hk] at hz
          by_cases ex : dig n f rs = x
          · rw [if_pos ex] at hz
            have : z = (row, rs) := (Option.some.inj hz).symm
            subst this
            exact absurd h4z h4
          · rw [if_neg ex] at hz
            exact hL.both x z hz h4z
        · intro x hx
          rw [lkA_app hk] at hx
          by_cases ex : dig n f rs = x
          · rw [if_pos ex] at hx; cases hx
          · rw [if_neg ex] at hx
            exact hL.only x hx
    | some z =>
      refine L2.iteF ?_
      refine xb_nil ?_
      refine xb_cons ?_
      refine xs_set (by assumption) ?_ (hx := by wtm_at "m") (hl := by wtm_at "m")
      refine xe_dget (by assumption) ?_
      refine xe_fld ?_
      wtm_at "w"
      refine ⟨a, _, dx, _, _, rfl, L1.ha, T.cl_Library, T.na_Library__rows, lib_r mx dR dE, ?_⟩
      wtm_at "w"
      refine ⟨dR, .ref z.1, rfl, .inl ⟨_, .inl (dig n f rs), .inl L1.hR, rfl, by rw [valV_kvR, hk]; rfl⟩, ?_⟩
      have hz1 := L1.rows _ (lkA_mem hk)
      wtm_at "w"
      refine vo_neT C (ns := z.2) (ms := rs) hz1 hr1 ?_
      wtm_at "w"
      refine ite_nd (fun h => ?_) (fun h => ?_)
      · wtm_at "w"
        intro p H2 k2 hp _
        exact q2 z hk h p H2 (k1.tr0 k2) hp
      · wtm_at "w"
        refine ⟨row, _, rfl, hr1, th.pos, ?_⟩
        wtm_at "w"
        refine ite_d (fun h4 => ?_) (fun h4 => ?_)
        · obtain ⟨c, es0, bs, s, k, hh, hq, l1, l5, ez⟩ := hL.both _ z hk (by rw [h]; exact h4)
          obtain ⟨s', k', hh', bs', er, m1, m5⟩ := th.hd h4
          have hc1 := L1.ents _ (lkA_mem hq)
          have ee : rowH n f s k hh es0 bs = rowH n f s' k' hh' es bs' := by rw [← ez, ← er]; exact h
          have el : es0.length = es.length ∧ rt n f es0 = rt n f es := by
            unfold rowH at ee
            simp at ee
            omega
          wtm_at "w"
          refine xe_fld ?_
          wtm_at "w"
          refine ⟨a, _, dx, _, _, rfl, L1.ha, T.cl_Library, T.na_Library_mixing, lib_m mx dR dE, ?_⟩
          wtm_at "w"
          refine xe_fld ?_
          wtm_at "w"
          refine ⟨a, _, dx, _, _, rfl, L1.ha, T.cl_Library, T.na_Library__entries, lib_e mx dR dE, ?_⟩
          wtm_at "w"
          refine vx_dict (by assumption) (v := .ref c) (.inl ⟨_, .inl (dig n f rs), .inl L1.hE, rfl, by rw [valV_kvR, hq]; rfl⟩) ?_
          wtm_at "w"
          exact ⟨mx, c, e, n, f, es0, es, rfl, L1.hx, Z.SqL.of' hc1, Z.SqL.of' he1, by omega, by omega, el.1, hn, fun v H2 k2 hv => q4 z (c, es0) hk h h4 hq el.1 el.2 m1 v H2 (k1.tr0 k2) hv⟩
        · wtm_at "w"
          exact q3 z hk h h4 H1 k1
end
/-! _law_is_integer -/
section
local macro_rules | `(tactic| wtm_at "d") => `(tactic| first | ((with_reducible show Z.XE _ (PySem.Expr.Call (PySem.Expr.Name "bool" _) (_ :: _) [] _) _ _ _); refine Z.xe_callTy (id := "bool") (by assumption) (by wtm_at "m") T.b_bool (by decide +kernel) ?_) | ((with_reducible show Z.XE _ (PySem.Expr.Name "bool" _) _ _ _); refine Z.xe_ty (id := "bool") (by assumption) (by wtm_at "m") T.b_bool (by decide +kernel) ?_) | ((with_reducible show Z.XE _ (PySem.Expr.Call (PySem.Expr.Name "int" _) (_ :: _) [] _) _ _ _); refine Z.xe_callTy (id := "int") (by assumption) (by wtm_at "m") T.b_int (by decide +kernel) ?_) | ((with_reducible show Z.XE _ (PySem.Expr.Name "int" _) _ _ _); refine Z.xe_ty (id := "int") (by assumption) (by wtm_at "m") T.b_int (by decide +kernel) ?_) | ((with_reducible show Z.XE _ (PySem.Expr.Call (PySem.Expr.Name "isinstance" _) (_ :: _) [] _) _ _ _); refine Z.xe_callB (id := "isinstance") (by assumption) (by wtm_at "m") T.b_isinstance (by decide +kernel) ?_) | fail)
def sp_isint : Sp := fun vs H Q _ => ∃ v : Int, vs = [.int v] ∧ Q (.bl true) H
theorem ok__law_is_integer (T : Txt P w K mg base) : DefOk P w K mg base "_law_is_integer" ["told"] 1 sp_isint := by
  refine DefOk.by T.d__law_is_integer sc__law_is_integer oc__law_is_integer (fun vs H Q E h => ?_) (fun X e1 e2 e3 e4 e5 C H vs Q E h => ?_)
  · obtain ⟨v, rfl, _⟩ := h; rfl
  · obtain ⟨v, rfl, q⟩ := h
    wtm_at "go"
    wtm_at "w"
    refine vc_isi (t := "int") (u := true) (.base (.int v)) (by decide +kernel) ?_
    wtm_at "w"
    refine vc_isi (t := "int") (u := false) (.base (.int v)) (by decide +kernel) ?_
    wtm_at "w"
    exact q
end
/-! plainS -/
mutual
def plainS : PyData → Prop
  | .none | .bool _ | .int _ | .str _ => True
  | .dict _ => False
  | .list ds | .tuple ds => ds.length ≤ 100000 ∧ plainSs ds
def plainSs : List PyData → Prop
  | [] => True
  | d :: ds => plainS d ∧ plainSs ds
end
theorem plainS_at : ∀ {ds : List PyData} {i : Nat} {d : PyData}, plainSs ds → ds[i]? = some d → plainS d
  | [], _, _, _, e => by simp at e
  | x :: xs, 0, d, h, e => by
    have e' : x = d := by simpa using e
    rw [plainSs] at h; rw [← e']; exact h.1
  | x :: xs, i + 1, d, h, e => by rw [plainSs] at h; exact plainS_at (ds := xs) h.2 (by simpa using e)
theorem plainSs_ints : ∀ ns : List Int, plainSs (ns.map PyData.int)
  | [] => by simp [plainSs]
  | n :: ns => by simp [plainSs, plainS, plainSs_ints ns]
theorem plainS_L {ns : List Int} (h : ns.length ≤ 100000) : plainS (.list (ns.map PyData.int)) ∧ (PyData.list (ns.map PyData.int)).depth ≤ 3 := by
  rw [plainS, PyData.depth, depth_ints, List.length_map]
  exact ⟨⟨h, plainSs_ints _⟩, by omega⟩
theorem plainS_T {ns : List Int} (h : ns.length ≤ 100000) : plainS (.tuple (ns.map PyData.int)) ∧ (PyData.tuple (ns.map PyData.int)).depth ≤ 3 := by
  rw [plainS, PyData.depth, depth_ints, List.length_map]
  exact ⟨⟨h, plainSs_ints _⟩, by omega⟩
/-! _law_same_s4 -/
section
local macro_rules | `(tactic| wtm_at "d") => `(tactic| first | ((with_reducible show Z.XE _ (PySem.Expr.Call (PySem.Expr.Name "bool" _) (_ :: _) [] _) _ _ _); refine Z.xe_callTy (id := "bool") (by assumption) (by wtm_at "m") T.b_bool (by decide +kernel) ?_) | ((with_reducible show Z.XE _ (PySem.Expr.Name "bool" _) _ _ _); refine Z.xe_ty (id := "bool") (by assumption) (by wtm_at "m") T.b_bool (by decide +kernel) ?_) | ((with_reducible show Z.XE _ (PySem.Expr.Call (PySem.Expr.Name "int" _) (_ :: _) [] _) _ _ _); refine Z.xe_callTy (id := "int") (by assumption) (by wtm_at "m") T.b_int (by decide +kernel) ?_) | ((with_reducible show Z.XE _ (PySem.Expr.Name "int" _) _ _ _); refine Z.xe_ty (id := "int") (by assumption) (by wtm_at "m") T.b_int (by decide +kernel) ?_) | ((with_reducible show Z.XE _ (PySem.Expr.Call (PySem.Expr.Name "isinstance" _) (_ :: _) [] _) _ _ _); refine Z.xe_callB (id := "isinstance") (by assumption) (by wtm_at "m") T.b_isinstance (by decide +kernel) ?_) | ((with_reducible show Z.XE _ (PySem.Expr.Call (PySem.Expr.Name "len" _) (_ :: _) [] _) _ _ _); refine Z.xe_callB (id := "len") (by assumption) (by wtm_at "m") T.b_len (by decide +kernel) ?_) | ((with_reducible show Z.XE _ (PySem.Expr.Call (PySem.Expr.Name "list" _) (_ :: _) [] _) _ _ _); refine Z.xe_callTy (id := "list") (by assumption) (by wtm_at "m") T.b_list (by decide +kernel) ?_) | ((with_reducible show Z.XE _ (PySem.Expr.Name "list" _) _ _ _); refine Z.xe_ty (id := "list") (by assumption) (by wtm_at "m") T.b_list (by decide +kernel) ?_) | ((with_reducible show Z.XE _ (PySem.Expr.Call (PySem.Expr.Name "str" _) (_ :: _) [] _) _ _ _); refine Z.xe_callTy (id := "str") (by assumption) (by wtm_at "m") T.b_str (by decide +kernel) ?_) | ((with_reducible show Z.XE _ (PySem.Expr.Name "str" _) _ _ _); refine Z.xe_ty (id := "str") (by assumption) (by wtm_at "m") T.b_str (by decide +kernel) ?_) | ((with_reducible show Z.XE _ (PySem.Expr.Call (PySem.Expr.Name "tuple" _) (_ :: _) [] _) _ _ _); refine Z.xe_callTy (id := "tuple") (by assumption) (by wtm_at "m") T.b_tuple (by decide +kernel) ?_) | ((with_reducible show Z.XE _ (PySem.Expr.Name "tuple" _) _ _ _); refine Z.xe_ty (id := "tuple") (by assumption) (by wtm_at "m") T.b_tuple (by decide +kernel) ?_) | ((with_reducible show Z.XE _ (PySem.Expr.Call (PySem.Expr.Name "_law_is_integer" _) (_ :: _) [] _) _ _ _); refine Z.xe_call (by assumption) (Law.ok__law_is_integer T) (by wtm_at "m") (by omega) ?_) | ((with_reducible show Z.XE _ (PySem.Expr.Call (PySem.Expr.Name "_law_same" _) (_ :: _) [] _) _ _ _); refine Z.xe_call (by assumption) (Law.ok__law_same T) (by wtm_at "m") (by omega) ?_) | fail)
def sp_same (n : Nat) (K : PySem.W.Frag) : Sp := fun vs H Q _ => ∃ (t u : V) (d : PyData), vs = [t, u] ∧ Dp K H t d ∧ Dp K H u d ∧ d.depth ≤ n ∧ plainS d ∧ Q (.bl true) H
theorem same_by (T : Txt P w K mg base) (n : Nat) (ih : 0 < n → DefOk P w K mg base "_law_same" ["told", "due"] (n + 1) (sp_same (n - 1) K)) : DefOk P w K mg base "_law_same" ["told", "due"] (n + 1 + 1) (sp_same n K) := by
  refine DefOk.by T.d__law_same sc__law_same oc__law_same (fun vs H Q E h => ?_) (fun X e1 e2 e3 e4 e5 C H vs Q E h => ?_)
  · obtain ⟨t, u, d, rfl, _⟩ := h; rfl
  · obtain ⟨t, u, d, rfl, ht, hu, hd, hp, q⟩ := h
    subst e1; subst e2; subst e3; subst e4; subst e5
    have tail : ∀ (p p' : Addr) (xs ys : List V) (ds : List PyData), Sq X.K H p xs → Sq X.K H p' ys → DpAll X.K H xs ds → DpAll X.K H ys ds → 0 < n → PyData.depthAll ds ≤ n - 1 → plainSs ds → ds.length ≤ 100000 →
        XB X ((defBody s__law_same).drop 6) (fun _ H' => Q .non H') ⟨Q, fun _ _ => False, fun _ _ => False⟩ [some (.ref p), some (.ref p'), none] H := by
      intro p p' xs ys ds hx hy ax ay hn hdd hpp hll
      have lx := dpAll_len ax
      have ly := dpAll_len ay
      refine xb_cons ?_
      wtm_at "w"
      refine vc_lenS hx ?_
      wtm_at "w"
      refine vc_lenS hy ?_
      wtm_at "w"
      refine ite_nd (fun h => absurd (by omega) h) (fun _ => ?_)
      wtm_at "w"
      refine xs_forR1 (by assumption) (by wtm_at "m") T.b_range ?_
      wtm_at "w"
      refine vc_lenS hy ?_
      wtm_at "w"
      refine ⟨_, rfl, by omega, by omega, fun i σ H' => ∃ vk, σ = [some (.ref p), some (.ref p'), vk] ∧ H' = H, ⟨_, rfl, rfl⟩, ?_, ?_⟩
      · rintro i σ' H' hi ⟨vk, rfl, rfl⟩
        have hi' : i < ds.length := by omega
        obtain ⟨v, h1, h2⟩ := dpAll_at ax (List.getElem?_eq_getElem hi')
        obtain ⟨v', h3, h4⟩ := dpAll_at ay (List.getElem?_eq_getElem hi')
        have hdi := depth_at (List.getElem?_eq_getElem hi')
        wtm_at "w"
        refine xe_call (by assumption) (ih hn) (by wtm_at "m") (by omega) ?_
        wtm_at "w"
        refine vx_S hx (atI_nat h1) ?_
        wtm_at "w"
        refine vx_S hy (atI_nat h3) ?_
        wtm_at "w"
        refine ⟨v, v', _, rfl, h2, h4, by omega, plainS_at hpp (List.getElem?_eq_getElem hi'), ?_⟩
        wtm_at "w"
        exact ⟨_, rfl, rfl⟩
      · rintro σ' H' ⟨vk, rfl, rfl⟩
        wtm_at "w"
        exact q
    simp only [st0]
    refine xb_cons ?_
    cases hu with
    | non =>
      cases ht
      wtm_at "w"
      refine vc_isi (t := "NoneType") (u := false) (.base .non) (by decide +kernel) ?_
      wtm_at "w"
      refine vc_isi (t := "NoneType") (u := false) (.base .non) (by decide +kernel) ?_
      wtm_at "w"
      refine vc_isi (t := "NoneType") (u := false) (.base .non) (by decide +kernel) ?_
      wtm_at "w"
      refine ite_d (fun _ => ?_) (fun h => absurd rfl h)
      wtm_at "w"
      simpa using q
    | bl b =>
      cases ht
      wtm_at "w"
      refine vc_isi (t := "bool") (u := true) (.base (.bl _)) (by decide +kernel) ?_
      wtm_at "w"
      refine vc_isi (t := "bool") (u := true) (.base (.bl _)) (by decide +kernel) ?_
      wtm_at "w"
      simpa using q
    | int i =>
      cases ht
      wtm_at "w"
      refine vc_isi (t := "int") (u := false) (.base (.int _)) (by decide +kernel) ?_
      wtm_at "w"
      refine vc_isi (t := "int") (u := true) (.base (.int _)) (by decide +kernel) ?_
      wtm_at "w"
      refine ⟨i, rfl, ?_⟩
      wtm_at "w"
      simpa using q
    | str x =>
      cases ht
      wtm_at "w"
      refine vc_isi (t := "str") (u := false) (.base (.str _)) (by decide +kernel) ?_
      wtm_at "w"
      refine vc_isi (t := "str") (u := false) (.base (.str _)) (by decide +kernel) ?_
      wtm_at "w"
      refine vc_isi (t := "str") (u := true) (.base (.str _)) (by decide +kernel) ?_
      wtm_at "w"
      refine vc_isi (t := "str") (u := true) (.base (.str _)) (by decide +kernel) ?_
      wtm_at "w"
      refine ⟨_, op_eq, rfl, ?_⟩
      simpa using q
    | lst hy ay =>
      cases ht with
      | lst hx ax =>
        rw [plainS] at hp
        rw [PyData.depth] at hd
        wtm_at "w"
        refine vc_isi (t := "list") (u := false) (ty_L hy) (by decide +kernel) ?_
        wtm_at "w"
        refine vc_isi (t := "list") (u := false) (ty_L hy) (by decide +kernel) ?_
        wtm_at "w"
        refine vc_isi (t := "list") (u := false) (ty_L hy) (by decide +kernel) ?_
        wtm_at "w"
        refine ite_d (fun h => nomatch h) (fun _ => ?_)
        wtm_at "w"
        refine vc_isi (t := "list") (u := false) (ty_L hy) (by decide +kernel) ?_
        wtm_at "w"
        refine vc_isi (t := "list") (u := true) (ty_L hy) (by decide +kernel) ?_
        wtm_at "w"
        refine vc_isi (t := "list") (u := true) (ty_L hx) (by decide +kernel) ?_
        refine vt_bl (ite_NT (xb_nil ?_))
        exact tail _ _ _ _ _ (.inl hx) (.inl hy) ax ay (by omega) (by omega) hp.2 hp.1
    | tup hy ay =>
      cases ht with
      | tup hx ax =>
        rw [plainS] at hp
        rw [PyData.depth] at hd
        wtm_at "w"
        refine vc_isi (t := "tuple") (u := false) (ty_T hy) (by decide +kernel) ?_
        wtm_at "w"
        refine vc_isi (t := "tuple") (u := false) (ty_T hy) (by decide +kernel) ?_
        wtm_at "w"
        refine vc_isi (t := "tuple") (u := false) (ty_T hy) (by decide +kernel) ?_
        wtm_at "w"
        refine ite_d (fun h => nomatch h) (fun _ => ?_)
        wtm_at "w"
        refine vc_isi (t := "tuple") (u := true) (ty_T hy) (by decide +kernel) ?_
        wtm_at "w"
        refine vc_isi (t := "tuple") (u := true) (ty_T hx) (by decide +kernel) ?_
        wtm_at "w"
        refine vc_isi (t := "tuple") (u := false) (ty_T hy) (by decide +kernel) ?_
        refine vt_bl (L2.iteF (L2.iteF (xb_nil ?_)))
        exact tail _ _ _ _ _ (.inr hx) (.inr hy) ax ay (by omega) (by omega) hp.2 hp.1
theorem same_ok (T : Txt P w K mg base) : ∀ n, DefOk P w K mg base "_law_same" ["told", "due"] (n + 1 + 1) (sp_same n K)
  | 0 => same_by T 0 fun h => absurd h (by omega)
  | n + 1 => same_by T (n + 1) fun _ => same_ok T n
theorem ok__law_same (T : Txt P w K mg base) : DefOk P w K mg base "_law_same" ["told", "due"] 6 (sp_same 4 K) := same_ok T 4
end
/-! noL -/
mutual
def noL : PyData → Bool
  | .list _ => false
  | .tuple ds => noLs ds
  | _ => true
def noLs : List PyData → Bool
  | [] => true
  | d :: ds => noL d && noLs ds
end
mutual
theorem dp_kpT {K : PySem.W.Frag} {H H' : Hp} {A : List Addr} (k : Kp A H H') : ∀ {d : PyData} {v : V}, noL d = true → Dp K H v d → Dp K H' v d
  | _, _, _, .non => .non
  | _, _, _, .bl b => .bl b
  | _, _, _, .int i => .int i
  | _, _, _, .str x => .str x
  | _, _, n, .lst h a => by simp [noL] at n
  | _, _, n, .tup h a => .tup (k.tup h) (dpAll_kpT k (by simpa [noL] using n) a)
theorem dpAll_kpT {K : PySem.W.Frag} {H H' : Hp} {A : List Addr} (k : Kp A H H') : ∀ {ds : List PyData} {vs : List V}, noLs ds = true → DpAll K H vs ds → DpAll K H' vs ds
  | _, _, _, .nil => .nil
  | _, _, n, .cons h a => by
    simp only [noLs, Bool.and_eq_true] at n
    exact .cons (dp_kpT k n.1 h) (dpAll_kpT k n.2 a)
end
theorem noLs_ints : ∀ ns : List Int, noLs (ns.map PyData.int) = true
  | [] => rfl
  | n :: ns => by rw [List.map_cons, noLs, noLs_ints ns]; rfl
theorem noLs_take : ∀ {ds : List PyData} (t : Nat), noLs ds = true → noLs (ds.take t) = true
  | [], t, _ => by simp [noLs]
  | d :: ds, 0, _ => rfl
  | d :: ds, t + 1, h => by
    simp only [noLs, Bool.and_eq_true] at h
    rw [List.take_succ_cons, noLs, h.1, noLs_take t h.2]; rfl
/-! strs -/
/-! texts that are compared; data taken apart -/
section
variable {X : Cx} {H : Hp} {Q : VK} {a b : Str}
theorem vo_eqS (h : Q (.bl (decide (a = b))) H) : VO X (compareOp .Eq) (.str a) (.str b) H Q := by
  refine ⟨_, op_eq, rfl, ?_⟩
  have e : decide (V.str a = V.str b) = decide (a = b) := by by_cases e : a = b <;> simp [e]
  rw [e]; exact h
theorem vo_neS (h : Q (.bl (!decide (a = b))) H) : VO X (compareOp .NotEq) (.str a) (.str b) H Q := by
  refine ⟨_, op_ne, rfl, ?_⟩
  have e : decide (V.str a = V.str b) = decide (a = b) := by by_cases e : a = b <;> simp [e]
  rw [e]; exact h
end
local macro_rules | `(tactic| wtm_at "v") => `(tactic| first | (with_reducible refine Law.vo_eqS ?_) | (with_reducible refine Law.vo_neS ?_) | fail)
theorem dp_tupI {K : PySem.W.Frag} {H : Hp} {v : V} {ds : List PyData} (h : Dp K H v (.tuple ds)) : ∃ p vs, v = .ref p ∧ SqT K H p vs ∧ DpAll K H vs ds := by
  cases h with
  | tup h a => exact ⟨_, _, rfl, h, a⟩
theorem dp_lstI {K : PySem.W.Frag} {H : Hp} {v : V} {ds : List PyData} (h : Dp K H v (.list ds)) : ∃ p vs, v = .ref p ∧ SqL K H p vs ∧ DpAll K H vs ds := by
  cases h with
  | lst h a => exact ⟨_, _, rfl, h, a⟩
theorem dpAll2 {K : PySem.W.Frag} {H : Hp} {vs : List V} {a b : PyData} (h : DpAll K H vs [a, b]) : ∃ x y, vs = [x, y] ∧ Dp K H x a ∧ Dp K H y b := by
  cases h with
  | cons h1 h => cases h with
    | cons h2 h => cases h; exact ⟨_, _, rfl, h1, h2⟩
theorem dpAll3 {K : PySem.W.Frag} {H : Hp} {vs : List V} {a b c : PyData} (h : DpAll K H vs [a, b, c]) : ∃ x y z, vs = [x, y, z] ∧ Dp K H x a ∧ Dp K H y b ∧ Dp K H z c := by
  cases h with
  | cons h1 h => cases h with
    | cons h2 h => cases h with
      | cons h3 h => cases h; exact ⟨_, _, _, rfl, h1, h2, h3⟩
theorem dp_strI {K : PySem.W.Frag} {H : Hp} {v : V} {s : Str} (h : Dp K H v (.str s)) : v = .str s := by cases h; rfl
theorem dp_intI {K : PySem.W.Frag} {H : Hp} {v : V} {s : Int} (h : Dp K H v (.int s)) : v = .int s := by cases h; rfl
/-! lc2 -/
/-! [.. for x, y in a list of pairs] -/
section
variable {X : Cx} {σ σ' : St} {H : Hp} {Q : VK} {N Vs Ls G Vs' G' : List Str} {k i j kt : Nat} {sc scope : Scope} {elt iter : Expr} {ifs : List Expr} {p1 p2 p3 pos : Pos} {nm nm2 : Str}
def gTwo (K : PySem.W.Frag) (i j : Nat) : TG := fun v σ H Q => ∃ (p : Addr) (x y : V), v = .ref p ∧ SqT K H p [x, y] ∧ Q ((σ.set i (some x)).set j (some y)) H
structure LcOk2 (sc scope : Scope) (N Vs' G' : List Str) (nm nm2 : Str) (i j : Nat) (ifs : List Expr) : Prop where
  hN : N[i]? = some nm
  hN2 : N[j]? = some nm2
  ne : i ≠ j
  blk : blkC N sc scope [(nm, i), (nm2, j)] = true
  rd : okC (relS scope sc) Vs' [] G' = true
  knd : scope.kind = .function
  own : (relS scope sc).names.lookup nm = some .local
  own2 : (relS scope sc).names.lookup nm2 = some .local
  one : ifs.length ≤ 1
theorem pg_two (C : Ctx X sc N Vs Ls G k) (O : LcOk2 sc scope N Vs' G' nm nm2 i j ifs) {s0 : Shared} {H0 : Hp} {c : Addr} {cl : List (Str × Addr)} {fp : List Addr} : PG (X.blk s0 H0 scope (compEnvC scope cl c X.env) fp) (.Tuple [.Name nm p1, .Name nm2 p2] kt p3) (gTwo X.K i j) := by
  refine ⟨fun pins s σ H v u Q I r ⟨p, x, y, e, ht, q⟩ => ?_⟩
  exact (pg_tup (X := X.blk s0 H0 scope (compEnvC scope cl c X.env) fp) (n := 2) C.calm (pgs_cons (pg_blk C O.hN O.own) (pgs_cons (pg_blk C O.hN2 O.own2) pgs_nil))).run pins s σ H v u Q I r ⟨p, [x, y], e, ht, rfl, x, [y], rfl, y, [], rfl, rfl, q⟩
/-- one turn: both names stored, the test, the element -/
def XTurn2 (X : Cx) (sc scope : Scope) (N Vs' G' : List Str) (k : Nat) (nm nm2 : Str) (ifs : List Expr) (elt : Expr) (σ : St) (v : V) (H : Hp) (L : Addr) (Nx : Hp → Prop) : Prop :=
  ∃ (p : Addr) (x y : V) (σ1 σ2 : St), v = .ref p ∧ SqT X.K H p [x, y] ∧ Put N σ nm x σ1 ∧ Put N σ1 nm2 y σ2 ∧
    match ifs with
    | [] => XEC X sc scope N Vs' G' k elt σ2 H fun z H4 => ∃ acc, H4 L = some (.lst acc) ∧ acc.length < sizeLine ∧ ∀ H5, Kp [L] H4 H5 → H5 L = some (.lst (acc ++ [z])) → Nx H5
    | c' :: _ => XTC X sc scope N Vs' G' k c' σ2 H fun b H3 => if b = true then XEC X sc scope N Vs' G' k elt σ2 H3 (fun z H4 => ∃ acc, H4 L = some (.lst acc) ∧ acc.length < sizeLine ∧ ∀ H5, Kp [L] H4 H5 → H5 L = some (.lst (acc ++ [z])) → Nx H5) else Nx H3
theorem turn_ok2 (C : Ctx X sc N Vs Ls G k) (O : LcOk2 sc scope N Vs' G' nm nm2 i j ifs) {v : V} {L : Addr} {Nx : Hp → Prop} (h : XTurn2 X sc scope N Vs' G' k nm nm2 ifs elt σ v H L Nx) :
    gTwo X.K i j v (wipe σ [i, j]) H fun σ2 H2 => wipe σ2 [i, j] = wipe σ [i, j] ∧ ttC X scope ifs σ2 H2 fun b H3 => if b = true then teC X scope elt σ2 H3 (fun y H4 => ∃ acc, H4 L = some (.lst acc) ∧ acc.length < sizeLine ∧ Nx (upd H4 L (.lst (acc ++ [y])))) else Nx H3 := by
  obtain ⟨p, x, y, σ1, σ2, e, ht, q1, q2, h⟩ := h
  obtain ⟨i', hi', e1⟩ := q1.ix
  obtain ⟨j', hj', e2⟩ := q2.ix
  have ei : i = i' := nd_ix C.nd O.hN hi'
  have ej : j = j' := nd_ix C.nd O.hN2 hj'
  subst ei; subst ej
  have ne := O.ne
  have w1 : ((wipe σ [i, j]).set i (some x)).set j (some y) = σ2 := by
    rw [← e2, ← e1]
    show (((σ.set j none).set i none).set i (some x)).set j (some y) = _
    rw [List.set_set, List.set_comm none (some x) (Ne.symm ne), List.set_set]
  refine ⟨p, x, y, e, ht, ?_⟩
  rw [w1]
  refine ⟨?_, ?_⟩
  · rw [← e2, ← e1]
    show ((((σ.set i (some x)).set j (some y)).set j none).set i none) = (σ.set j none).set i none
    rw [List.set_set, List.set_comm (some x) none ne, List.set_set]
  have fin : ∀ H3, XEC X sc scope N Vs' G' k elt σ2 H3 (fun z H4 => ∃ acc, H4 L = some (.lst acc) ∧ acc.length < sizeLine ∧ ∀ H5, Kp [L] H4 H5 → H5 L = some (.lst (acc ++ [z])) → Nx H5) →
      teC X scope elt σ2 H3 (fun y H4 => ∃ acc, H4 L = some (.lst acc) ∧ acc.length < sizeLine ∧ Nx (upd H4 L (.lst (acc ++ [y])))) := fun H3 h s0 H0 c cl fp =>
    (h s0 H0 c cl fp (blk_ctx C O.rd O.knd)).mono fun v H4 ⟨acc, h1, h2, h3⟩ => ⟨acc, h1, h2, h3 _ (Kp.set h1 rfl) upd_same⟩
  cases ifs with
  | nil => exact iteT (B := Nx H) (fin H h)
  | cons c' r =>
    intro s0 H0 c cl fp
    refine (h s0 H0 c cl fp (blk_ctx C O.rd O.knd)).mono fun b H3 q => ?_
    cases b with
    | false => exact q
    | true => exact fin H3 q
theorem xlc_L2 (C : Ctx X sc N Vs Ls G k) (O : LcOk2 sc scope N Vs' G' nm nm2 i j ifs)
    (h : XE X iter σ H fun v H1 => ∃ a xs, v = .ref a ∧ SqL X.K H1 a xs ∧ ∀ L H2, Kp [] H1 H2 → H1 L = none → H2 L = some (.lst []) → ∃ Pv : Nat → Hp → Prop, Pv 0 H2 ∧ (∀ t H', t ≤ xs.length → Pv t H' → SqL X.K H' a xs) ∧
      (∀ t y H', xs[t]? = some y → Pv t H' → XTurn2 X sc scope N Vs' G' k nm nm2 ifs elt σ y H' L (Pv (t + 1))) ∧ ∀ H', Pv xs.length H' → Q (.ref L) H') : XLC X elt (.Tuple [.Name nm p1, .Name nm2 p2] kt p3) iter ifs scope σ H Q := by
  refine ⟨_, gTwo X.K i j, ttC X scope ifs, teC X scope elt, [(nm, i), (nm2, j)], pi_list XE.pe, blkOk_by (by rw [C.hN, C.esc]; exact O.blk), fun _ _ _ _ _ => pg_two C O, fun _ _ _ _ _ => pts_blk O.one, fun _ _ _ _ _ => pe_blk,
    fun σ H R R' m h => h.mono fun v H1 ⟨a, e, h1, q⟩ => ⟨a, e, h1, m _ _ q⟩, ?_⟩
  refine h.mono fun v H1 ⟨a, xs, e, hx, h⟩ => ⟨a, e, ⟨xs, hx⟩, fun L hL => ?_⟩
  obtain ⟨Pv, h0, hl, hs, hd⟩ := h L _ (Kp.new hL) hL upd_same
  exact lc_list (K := X.K) (a := a) (xs := xs) Pv h0 hl (fun t y H' ht p => turn_ok2 C O (hs t y H' ht p)) hd
end
/-! enumS -/
/-! for i, x in enumerate(a list, start=k) -/
section
open PyProof.Rows
theorem callWith_tyKw {M : Model} {A : Around} {E : Value → Shared → Prop} {s : Shared} {env : Env} {pos : Pos} {T : String} {e : Expr} {rest : List Expr} {kws : List Keyword} {Q : Value → Shared → Prop}
    (h : wpAny M A (spliced (backTo pos (starEach (e :: rest) env))) (fun vs s₁ => wpAny M A (evalAll ((backToKw pos (keywordEach kws env)).map (·.2)))
      (fun kvs s₂ => wpAny M A (call (.type T) vs (((backToKw pos (keywordEach kws env)).filterMap (·.1)).zip kvs)) Q E s₂) E s₁) E s)
    (he : backTo pos (starEach (e :: rest) env) = (false, eval e env) :: backTo pos (starEach rest env) := by rfl)
    (hplain : (backTo pos (starEach (e :: rest) env)).any (·.1) = false := by rfl)
    (hall : (backToKw pos (keywordEach kws env)).all (·.1.isSome) = true := by rfl)
    (hkw : (backToKw pos (keywordEach kws env)).any (·.1.isNone) = false := by rfl) :
    wpAny M A (callWith pos (.type T) [] (backTo pos (starEach (e :: rest) env)) (backToKw pos (keywordEach kws env))) Q E s := by
  have h2 : wpAny M A (evalArgs (.type T) true (backTo pos (starEach (e :: rest) env)) (backToKw pos (keywordEach kws env))) (fun a s₁ => wpAny M A (call (.type T) ([] ++ a.pos) a.kw) Q E s₁) E s := by
    rw [he] at h ⊢
    exact evalArgs_kwB hall h
  unfold callWith
  refine wpAny_bind (wpAny_holding (wpAny_mono h2 (fun a s₁ h₁ => wpAny_bind (wpAny_standAt ?_)) fun _ _ x => x))
  simp only [hplain, hkw, Bool.or_false]
  refine wpAny_bind (wpAny_pure ?_)
  exact wpAny_bind (wpAny_mono h₁ (fun r s₂ hr => wpAny_bind (wpAny_holding (wpAny_point (wpAny_pure hr)))) fun _ _ x => x)
/-- the list at a, each item in a new pair with its number from k0 on -/
def IteS (K : PySem.W.Frag) (a : Addr) (k0 : Int) : It :=
  ⟨fun i H => ∃ (xs : List V) (x : V), SqL K H a xs ∧ xs[i]? = some x, fun i H v H' => ∃ T x, v = .ref T ∧ H T = none ∧ H' = upd H T (.tup [.int (k0 + (i : Int)), x]) ∧ ∀ xs, SqL K H a xs → xs[i]? = some x, fun i H => ∃ xs : List V, SqL K H a xs ∧ xs.length = i⟩
theorem turn_enumS {P : Program} {w : World} {K : PySem.W.Frag} {elts : List Expr} {kk : Nat} {tpos : Pos} (a e it : Addr) (k0 : Int) (n1 : a ≠ it) (n2 : e ≠ it) (n3 : e ≠ a) :
    Turn P w K (.Tuple elts kk tpos) (IteS K a k0) [e, it] e (fun i h => (∃ old, IsEnum h e it (k0 + (i : Int)) old) ∧ h.IsListIter it a i) where
  mem := by simp
  obj := fun i h st b hb => by
    obtain ⟨⟨old, he⟩, ⟨o, ho, hc, hd⟩⟩ := st
    have e' : b = e ∨ b = it := by simpa using hb
    rcases e' with z | z
    · rw [z]; exact ⟨_, he, fun v q => nomatch q⟩
    · rw [z]; exact ⟨o, ho, fun v q => by rw [hd] at q; cases q⟩
  keep := fun i h h' st k => let ⟨⟨old, he⟩, hi⟩ := st; ⟨⟨old, k e (by simp) _ he⟩, hi.at fun o q => k it (by simp) o q⟩
  item := by
    rintro X rfl rfl rfl hc i pins s σ H E I hf ⟨⟨old, he⟩, hit⟩ ⟨xs, x, lx, ex⟩
    have ⟨its, rv, p, _⟩ := I.list lx
    have ⟨u, hu, ru⟩ := rv.get ex
    have D1 := Draws.list (prog := X.prog) (w := X.w) (A := X.A.in1) (I.ok.hd hc) it a n1 its.toArray
    have W := GoesN.enumFrom (elts := elts) (x1 := kk) (pos := tpos) k0 D1 e n2 (by simp [n2, n3]) (by simp)
    have b1 : i < its.length := (List.getElem?_eq_some_iff.1 hu).1
    refine W.goes i s (fun v s2 => ∃ x H', Inv X pins σ H' s2 ∧ RelV x v ∧ (IteS X.K a k0).yld i H x H' ∧ ((∃ old, IsEnum s2.heap e it (k0 + ((i + 1 : Nat) : Int)) old) ∧ s2.heap.IsListIter it a (i + 1)) ∧ ∀ b ∈ [e, it], H' b = none) E (by simpa using b1) ⟨⟨old, he⟩, hit, p.isList⟩ ?_
    rintro v h' tk ⟨T, t1, v1, rfl, hn, hv1, hT⟩ ⟨r1, r2, _⟩ hk _
    have c1 : v1 = u := by simpa [hu] using hv1.symm
    subst c1
    have new : ObjOk X.prog X.w (upd H T (.tup [.int (k0 + (i : Int)), x])) h' T (.tup [.int (k0 + (i : Int)), x]) := ⟨by show 2 ≤ sizeLine; decide, [.int (k0 + (i : Int)) t1, v1], .cons ⟨_, rfl⟩ (.cons ru .nil), hT⟩
    refine ⟨.ref T, _, I.turnedNew (t' := tk) (ch := [e, it]) (fun c o hb q => hk c o hb q) (fun c hm => hf c hm) hn new, rfl, ⟨T, x, rfl, I.hok.fresh hn, rfl, fun l hl => I.list_inj hl lx ▸ ex⟩, ⟨r1, r2⟩, fun c hm => ?_⟩
    have hl : c < s.heap.objs.size := by
      obtain ⟨o2, q2, _⟩ := hit
      simp only [List.mem_cons, List.not_mem_nil, or_false] at hm
      rcases hm with rfl | rfl
      · exact Heap.lt_size he
      · exact Heap.lt_size q2
    exact (upd_ne (Nat.ne_of_lt (Nat.lt_of_lt_of_le hl hn))).trans (hf c hm).1
  done := by
    rintro X rfl rfl rfl hc i pins s σ H E I hf ⟨⟨old, he⟩, hit⟩ ⟨xs, lx, ex⟩
    have ⟨its, rv, p, _⟩ := I.list lx
    have D1 := Draws.list (prog := X.prog) (w := X.w) (A := X.A.in1) (I.ok.hd hc) it a n1 its.toArray
    have W := GoesN.enumFrom (elts := elts) (x1 := kk) (pos := tpos) k0 D1 e n2 (by simp [n2, n3]) (by simp)
    have hi : its.toArray.size = i := by
      have l1 := rv.length
      simp; omega
    refine W.stops s (fun s1 => Inv X pins σ H s1) E (by rw [hi]; exact ⟨⟨old, he⟩, hit, p.isList⟩) ?_
    intro h' tk hk _
    exact I.turnedL (t' := tk) (ch := [e, it]) (fun c o hb q => hk c o hb q) fun c hm => hf c hm
  self := fun A i s Q E st h => let ⟨⟨_, he⟩, _⟩ := st; wpAny_pyIter_enum he h
def iEnumS (K : PySem.W.Frag) (k0 : Int) (ta : TA) : TI := fun σ H R => ta σ H fun vs H1 => ∃ a xs, vs = [.ref a] ∧ SqL K H1 a xs ∧ R (IteS K a k0) H1
theorem pi_enumS {X : Cx} {e : Expr} {ta : TA} {p pos tpos cpos kpos : Pos} {elts : List Expr} {kk j : Nat} {k0 : Int} (hk0 : -(2 ^ 63) ≤ k0) (hk1 : k0 < 2 ^ 63) (hg : Gl X "enumerate") (hm : X.mg "enumerate" = none) (ha : PA X [e] ta) (hst : starEach [e] X.env = [(false, eval e X.env)] := by rfl) :
    PI X (.Tuple elts kk tpos) (.Call (.Name "enumerate" p) [e] [⟨some "start", .Constant (.int k0) j cpos, kpos⟩] pos) (iEnumS X.K k0 ta) where
  run := by
    intro pins s σ H R I h
    refine wpAny_Call_Name_kw (ld_blt I hg hm PyProof.Rows.boot_enumerate ?_)
    refine callWith_tyKw (he := by rw [hst]; rfl) (hplain := by rw [hst]; rfl) (thn (ha.run pos pins s σ H _ I h) ?_)
    rintro us s1 ⟨vs, H1, I1, r1, a, xs, rfl, lx, q⟩
    refine thn ((pk_cons (X := X) (nm := some "start") (kpos := kpos) (pe_int (X := X) (i := k0) (j := j) (pos := cpos)) pk_nil).run pos pins s1 σ H1 (fun zs H2 => zs = [.int k0] ∧ H2 = H1) I1 ⟨rfl, rfl⟩) ?_
    rintro ws s2 ⟨zs, H2, I2, r2, rfl, rfl⟩
    match us, r1, ws, r2 with
    | [_], .cons r .nil, [_], .cons rk .nil =>
      cases r
      obtain ⟨tk0, rfl⟩ := rk
      have ⟨its, _, p1, _⟩ := I2.list lx
      have la : a < s2.heap.objs.size := p1.lt
      show wpAny _ _ (call (.type "enumerate") [.ref a] [(Str.ofString "start", .int k0 tk0)]) _ _ _
      refine enum_begins_start (begins_list a its.toArray) p1.isList hk0 hk1 fun h' q1 q2 _ hk => wpAny_pyIter_enum q1 ?_
      refine ⟨_, [s2.heap.objs.size + 1, s2.heap.objs.size], _, _, H2, rfl, I2.kept (t' := s2.toks) hk, turn_enumS a _ _ k0 (Nat.ne_of_lt la) (Nat.succ_ne_self _) (Nat.ne_of_gt (Nat.lt_succ_of_lt la)), ⟨⟨.none, by simpa using q1⟩, ⟨_, q2, rfl, rfl⟩⟩, fun c hm => ?_, q⟩
      have hl : s2.heap.objs.size ≤ c := by
        simp only [List.mem_cons, List.not_mem_nil, or_false] at hm
        rcases hm with rfl | rfl <;> first | exact Nat.le_refl _ | exact Nat.le_add_right _ _
      exact I2.fpOk hl (I2.hok.fresh hl)
end
theorem for_enumS {K : PySem.W.Frag} {a : Addr} {k0 : Int} {xs : List V} {g : TG} {tb : TS} {D : Ends} {σ : L2.St} {H : Hp} (Pv : Nat → L2.St → Hp → Prop) (h0 : Pv 0 σ H) (hq : ∀ i σ H, i ≤ xs.length → Pv i σ H → SqL K H a xs)
    (hs : ∀ (i : Nat) (x : V) (T : Addr) (σ : L2.St) (H : Hp), xs[i]? = some x → Pv i σ H → H T = none → g (.ref T) σ (upd H T (.tup [.int (k0 + (i : Int)), x])) fun σ2 H2 => tb ⟨Pv (i + 1), D.rt, D.nx, Pv (i + 1)⟩ σ2 H2) (hd : ∀ σ H, Pv xs.length σ H → D.nx σ H) :
    ∃ W : Nat → Nat → L2.St → Hp → Prop, (∃ m, W 0 m σ H) ∧ ∀ i m σ H, W i m σ H →
      ((IteS K a k0).stop i H ∧ D.nx σ H) ∨ ((IteS K a k0).go i H ∧ ∃ N : L2.St → Hp → Prop, (∀ σ' H', N σ' H' → ∃ m', m' < m ∧ W (i + 1) m' σ' H') ∧ ∀ v H', (IteS K a k0).yld i H v H' → g v σ H' fun σ2 H2 => tb { D with nx := N, ct := N, bk := D.nx } σ2 H2) := by
  refine ⟨fun i m σ H => i ≤ xs.length ∧ m + i = xs.length ∧ Pv i σ H, ⟨_, Nat.zero_le _, rfl, h0⟩, ?_⟩
  rintro i m σ H ⟨hi, hm, p⟩
  have qx := hq i σ H hi p
  rcases Nat.lt_or_ge i xs.length with lt | ge
  · have ex := List.getElem?_eq_getElem lt
    refine .inr ⟨⟨xs, _, qx, ex⟩, Pv (i + 1), fun σ' H' p' => ⟨m - 1, by omega, lt, by omega, p'⟩, ?_⟩
    rintro v H' ⟨T, x', rfl, hT, rfl, f1⟩
    exact hs i x' T σ H (f1 _ qx) p hT
  · obtain rfl : i = xs.length := Nat.le_antisymm hi ge
    exact .inl ⟨⟨xs, qx, rfl⟩, hd σ H p⟩
section
variable {X : Cx} {σ : St} {H : Hp} {N Vs Ls G : List Str} {k : Nat} {sc : Scope} {e : Expr} {pos p2 tpos p cpos kpos : Pos} {nx : St → Hp → Prop} {D : B3} {body : List Stmt} {elts : List Expr} {kk j : Nat} {k0 : Int}
theorem xs_forES (C : Ctx X sc N Vs Ls G k) (hk0 : -(2 ^ 63) ≤ k0) (hk1 : k0 < 2 ^ 63) (hg : Mem G "enumerate") (hm : X.mg "enumerate" = none) (h : XA X [e] σ H fun vs H1 => ∃ a xs, vs = [.ref a] ∧ SqL X.K H1 a xs ∧ ∃ Pv : Nat → St → Hp → Prop, Pv 0 σ H1 ∧
    (∀ i σ' H', i ≤ xs.length → Pv i σ' H' → SqL X.K H' a xs) ∧ (∀ i x T σ' H' H2, xs[i]? = some x → Pv i σ' H' → Kp [] H' H2 → SqT X.K H2 T [.int (k0 + (i : Int)), x] → XG X (.Tuple elts kk tpos) (.ref T) σ' H2 fun σ3 H3 => XB X body (Pv (i + 1)) ⟨D.rt, nx, Pv (i + 1)⟩ σ3 H3) ∧ ∀ σ' H', Pv xs.length σ' H' → nx σ' H')
    (hst : starEach [e] X.env = [(false, eval e X.env)] := by rfl) (hfs : ∀ x, foldedSetIterable (.Call (.Name "enumerate" p) [e] [⟨some "start", .Constant (.int k0) j cpos, kpos⟩] p2) X.env x = pure x := by intro _; rfl) : XS X (.For (.Tuple elts kk tpos) (.Call (.Name "enumerate" p) [e] [⟨some "start", .Constant (.int k0) j cpos, kpos⟩] p2) body [] pos) nx D σ H := by
  refine ⟨_, ps_for C.po C.calm (pi_enumS hk0 hk1 (C.gl hg) hm XA.pa hst) XG.pg XB.ps hfs, ?_⟩
  refine XA.mono h fun vs H1 ⟨a, xs, e, hx, Pv, h0, hq, hs, hd⟩ => ⟨a, xs, e, hx, ?_⟩
  exact for_enumS (K := X.K) (a := a) (k0 := k0) (xs := xs) (D := ⟨nx, D.rt, D.bk, D.ct⟩) (g := XG X (.Tuple elts kk tpos)) (tb := fun D σ H => XB X body D.nx ⟨D.rt, D.bk, D.ct⟩ σ H) Pv h0 hq
    (fun i x T σ H hx hp hT => hs i x T σ H _ hx hp (Kp.new hT) (.inl (.inl upd_same))) hd
end
/-! isthP -/
/-! things by their kind -/
theorem isThing_pos {rs : List Int} (h : isThing rs = true) : 0 < rs.length := by
  cases rs with
  | nil => simp [isThing] at h
  | cons x r => simp
theorem isThing_hd {rs : List Int} (h : isThing rs = true) (e : rs.getD 0 0 = 4) : 6 ≤ rs.length ∧ 1 ≤ rs.getD 4 0 ∧ rs.length = 6 + cntB (rs.getD 2 0) := by
  have p := isThing_pos h
  unfold isThing at h
  rw [if_neg (by omega), if_neg (by omega), if_neg (by omega), if_pos e] at h
  exact of_decide_eq_true h
theorem isThing_doc {rs : List Int} (h : isThing rs = true) (e : rs.getD 0 0 = 2) : 2 ≤ rs.length ∧ 2 + rs.getD 1 0 ≤ rs.length := by
  have p := isThing_pos h
  unfold isThing at h
  rw [if_neg (by omega), if_neg (by omega), if_pos e] at h
  exact of_decide_eq_true h
theorem cut46g {rs : List Int} (h : 6 ≤ rs.length) : cutV (rs.map V.int) (some 4) (some 6) = [.int (rs.getD 4 0), .int (rs.getD 5 0)] := by
  match rs, h with
  | a :: b :: c :: d :: e :: g :: r, _ =>
    unfold cutV
    have l : ((a :: b :: c :: d :: e :: g :: r).map V.int).length = 6 + r.length := by simp; omega
    rw [l]
    rw [show HT.sIx (6 + r.length) 0 (some 4) = 4 by rw [show (4 : Int) = ((4 : Nat) : Int) from rfl, HT.sIx_nat]; omega, show HT.sIx (6 + r.length) (6 + r.length) (some 6) = 6 by rw [show (6 : Int) = ((6 : Nat) : Int) from rfl, HT.sIx_nat]; omega]
    rfl
/-! linksP -/
/-! places; what a thing holds there -/
structure Pl where
  w : Str
  i : Int
  way : List Int
def plD (p : Pl) : PyData := .tuple (if p.w = ("entry" : Str) then [.str p.w, .int p.i, .tuple (p.way.map PyData.int)] else [.str p.w, .int p.i])
def PlAt (K : PySem.W.Frag) (H : Hp) (a : Addr) (p : Pl) : Prop := ∃ r, SqT K H a (.str p.w :: .int p.i :: r) ∧ (p.w = ("entry" : Str) → ∃ wa, r = [.ref wa] ∧ SqT K H wa (p.way.map V.int))
theorem PlAt.kp {K : PySem.W.Frag} {A : List Addr} {H H' : Hp} {a : Addr} {p : Pl} (h : PlAt K H a p) (k : Kp A H H') : PlAt K H' a p := by
  obtain ⟨r, h1, h2⟩ := h
  exact ⟨r, k.tup h1, fun e => by obtain ⟨wa, e1, e2⟩ := h2 e; exact ⟨wa, e1, k.tup e2⟩⟩
theorem PlAt.of {K : PySem.W.Frag} {H : Hp} {v : V} {p : Pl} (h : Dp K H v (plD p)) : ∃ a, v = .ref a ∧ PlAt K H a p := by
  obtain ⟨a, vs, rfl, h1, h2⟩ := dp_tupI h
  refine ⟨a, rfl, ?_⟩
  by_cases e : p.w = ("entry" : Str)
  · rw [if_pos e] at h2
    obtain ⟨x, y, z, rfl, d1, d2, d3⟩ := dpAll3 h2
    rw [dp_strI d1, dp_intI d2] at h1
    obtain ⟨wa, rfl, hw⟩ := dp_Tinv d3
    exact ⟨_, h1, fun _ => ⟨wa, rfl, hw⟩⟩
  · rw [if_neg e] at h2
    obtain ⟨x, y, rfl, d1, d2⟩ := dpAll2 h2
    rw [dp_strI d1, dp_intI d2] at h1
    exact ⟨_, h1, fun z => absurd z e⟩
theorem cut2 (x y : V) (r : List V) : cutV (x :: y :: r) none (some 2) = [x, y] := by
  have := cut_take (x :: y :: r) 2 (by simp)
  rw [show ((2 : Nat) : Int) = 2 from rfl] at this
  rw [this]; rfl
/-- what a thing lists at a word -/
def listN (rs : List Int) (w : Str) : List Int := if w = ("cite" : Str) ∧ rs.getD 0 0 = 2 then (rs.drop 2).take (rs.getD 1 0).toNat else if w = ("back" : Str) ∧ rs.getD 0 0 = 4 then rs.drop 6 else []
def hasPl (rs : List Int) (p : Pl) : Bool := if p.w = ("entry" : Str) then decide (rs.getD 0 0 = 4 ∧ 0 ≤ p.i ∧ p.i < rs.getD 4 0) else decide (0 ≤ p.i ∧ p.i < (listN rs p.w).length)
def heldO (rs : List Int) (p : Pl) : Option Int := if p.w = ("entry" : Str) ∨ hasPl rs p = false then none else some ((listN rs p.w).getD p.i.toNat 0)
def climbO (n f : Int) (c i : Nat) (d : Int) (w : List Int) : Option Int := if (tn c i).length = w.length then some (cl n f (tn c i) d w) else none
def holdsB (n f : Int) (rs : List Int) (p : Pl) (d : Int) : Bool := if p.w = ("entry" : Str) then hasPl rs p && decide (climbO n f (rs.getD 4 0).toNat p.i.toNat d p.way = some (rs.getD 5 0)) else decide (heldO rs p = some d)
def rrB (bs rs : List Int) (p : Pl) : Bool := if p.w = ("back" : Str) then decide (bs.getD 0 0 = 4 ∧ bs.getD 1 0 = rs.getD 1 0 ∧ bs.getD 2 0 = rs.getD 2 0 - 2 ^ p.i.toNat ∧ bs.getD 3 0 < rs.getD 3 0) else true
structure RowOk (rs : List Int) : Prop where
  len : rs.length ≤ 10000
  one : 0 ≤ rs.getD 1 0
  four : rs.getD 0 0 = 4 → rs.getD 4 0 ≤ 2 ^ 68
def optV : Option Int → V
  | none => .non
  | some i => .int i
theorem cut_doc {rs : List Int} (h2 : 2 ≤ rs.length) (h1 : 0 ≤ rs.getD 1 0) : cutV (rs.map V.int) (some 2) (some (2 + rs.getD 1 0)) = ((rs.drop 2).take (rs.getD 1 0).toNat).map V.int := by
  generalize rs.getD 1 0 = c at h1 ⊢
  obtain ⟨c, rfl⟩ := Int.eq_ofNat_of_zero_le h1
  unfold cutV
  rw [show (2 : Int) + (c : Int) = ((2 + c : Nat) : Int) by omega, show (2 : Int) = ((2 : Nat) : Int) from rfl, HT.sIx_nat, HT.sIx_nat, List.length_map, Nat.min_eq_left h2, List.map_take, List.map_drop, Int.toNat_natCast]
  rw [List.take_eq_take_iff, List.length_drop, List.length_map]
  omega
theorem cut_six {rs : List Int} (h : 6 ≤ rs.length) : cutV (rs.map V.int) (some 6) none = (rs.drop 6).map V.int := by
  have := cut_drop (rs.map V.int) 6 (by rw [List.length_map]; exact h)
  rw [show ((6 : Nat) : Int) = 6 from rfl] at this
  rw [this, List.map_drop]
theorem cut14 {rs : List Int} (h : 4 ≤ rs.length) : cutV (rs.map V.int) (some 1) (some 4) = [.int (rs.getD 1 0), .int (rs.getD 2 0), .int (rs.getD 3 0)] := by
  match rs, h with
  | a :: b :: c :: d :: r, _ =>
    unfold cutV
    have l : ((a :: b :: c :: d :: r).map V.int).length = 4 + r.length := by simp; omega
    rw [l]
    rw [show HT.sIx (4 + r.length) 0 (some 1) = 1 by rw [show (1 : Int) = ((1 : Nat) : Int) from rfl, HT.sIx_nat]; omega, show HT.sIx (4 + r.length) (4 + r.length) (some 4) = 4 by rw [show (4 : Int) = ((4 : Nat) : Int) from rfl, HT.sIx_nat]; omega]
    rfl
theorem hasPl_back {rs : List Int} {p : Pl} (h : hasPl rs p = true) (hb : p.w = ("back" : Str)) : rs.getD 0 0 = 4 ∧ 0 ≤ p.i ∧ p.i < ((rs.drop 6).length : Int) := by
  unfold hasPl at h
  rw [if_neg (by rw [hb]; decide +kernel)] at h
  obtain ⟨h1, h2⟩ := of_decide_eq_true h
  unfold listN at h2
  rw [if_neg (fun z => absurd (hb.symm.trans z.1) (by decide +kernel))] at h2
  by_cases e : rs.getD 0 0 = 4
  · rw [if_pos ⟨hb, e⟩] at h2
    exact ⟨e, h1, h2⟩
  · rw [if_neg (fun z => e z.2)] at h2
    simp at h2; omega
/-! listed -/
section
local macro_rules | `(tactic| wtm_at "d") => `(tactic| first | ((with_reducible show Z.XE _ (PySem.Expr.Name "DOCUMENT" _) _ _ _); refine Z.xe_glob (v := L2.V.int 2) (by assumption) (by wtm_at "m") T.c_DOCUMENT.choose_spec ⟨_, rfl⟩ ?_) | ((with_reducible show Z.XE _ (PySem.Expr.Name "HEAD" _) _ _ _); refine Z.xe_glob (v := L2.V.int 4) (by assumption) (by wtm_at "m") T.c_HEAD.choose_spec ⟨_, rfl⟩ ?_) | ((with_reducible show Z.XE _ (PySem.Expr.Name "CITE" _) _ _ _); refine Z.xe_glob (v := L2.V.str "cite") (by assumption) (by wtm_at "m") T.c_CITE.choose_spec ⟨_, rfl⟩ ?_) | ((with_reducible show Z.XE _ (PySem.Expr.Name "BACK" _) _ _ _); refine Z.xe_glob (v := L2.V.str "back") (by assumption) (by wtm_at "m") T.c_BACK.choose_spec ⟨_, rfl⟩ ?_) | ((with_reducible show Z.XE _ (PySem.Expr.Call (PySem.Expr.Name "kind_of" _) (_ :: _) [] _) _ _ _); refine Z.xe_call (by assumption) (Law.ok_kind_of T) (by wtm_at "m") (by omega) ?_) | fail)
def sp_listed (K : PySem.W.Frag) : Sp := fun vs H Q _ => ∃ (a : Addr) (rs : List Int) (w : Str), vs = [.ref a, .str w] ∧ SqT K H a (rs.map V.int) ∧ isThing rs = true ∧ RowOk rs ∧ ∀ p H', Kp [] H H' → SqT K H' p ((listN rs w).map V.int) → Q (.ref p) H'
theorem ok_listed (T : Txt P w K mg base) : DefOk P w K mg base "listed" ["row", "word"] 2 (sp_listed K) := by
  refine DefOk.by T.d_listed sc_listed oc_listed (fun vs H Q E h => ?_) (fun X e1 e2 e3 e4 e5 C H vs Q E h => ?_)
  · obtain ⟨a, rs, w, rfl, _⟩ := h; rfl
  · obtain ⟨a, rs, w, rfl, hr, th, ro, q⟩ := h
    have hp := isThing_pos th
    have l0 : listN rs w = if w = ("cite" : Str) ∧ rs.getD 0 0 = 2 then (rs.drop 2).take (rs.getD 1 0).toNat else if w = ("back" : Str) ∧ rs.getD 0 0 = 4 then rs.drop 6 else [] := rfl
    wtm_at "go"
    wtm_at "w"
    refine ⟨a, rs, rfl, hr, hp, ?_⟩
    refine ⟨_, by wtm_at "u", ?_⟩
    have rest : ¬ (w = ("cite" : Str) ∧ rs.getD 0 0 = 2) → XB X ((defBody s_listed).drop 2) (fun _ H' => Q .non H') ⟨Q, fun _ _ => False, fun _ _ => False⟩ [some (.ref a), some (.str w), some (.int (rs.getD 0 0))] H := by
      intro c0
      rw [if_neg c0] at l0
      have e0 : ¬ (w = ("back" : Str) ∧ rs.getD 0 0 = 4) → ∀ p H', Kp [] H H' → SqT X.K H' p [] → Q (.ref p) H' := fun c1 p H' k h => q p H' k (by rw [l0, if_neg c1]; exact h)
      refine xb_cons ?_
      wtm_at "w"
      refine ite_d (fun h1 => ?_) (fun h1 => ?_)
      · wtm_at "w"
        refine ite_d (fun h2 => ?_) (fun h2 => ?_)
        · rw [if_pos ⟨h1, h2⟩] at l0
          obtain ⟨h6, _⟩ := isThing_hd th h2
          wtm_at "w"
          refine vsl_tup hr (fun p H1 k1 h => ?_)
          rw [cut_six h6] at h
          exact q p H1 k1 (by rw [l0]; exact h)
        · wtm_at "w"
          exact fun p H1 k1 h _ => e0 (fun z => h2 z.2) p H1 k1 h
      · wtm_at "w"
        exact fun p H1 k1 h _ => e0 (fun z => h1 z.1) p H1 k1 h
    refine xb_cons ?_
    wtm_at "w"
    refine ite_d (fun h1 => ?_) (fun h1 => ?_)
    · wtm_at "w"
      refine ite_d (fun h2 => ?_) (fun h2 => ?_)
      · rw [if_pos ⟨h1, h2⟩] at l0
        obtain ⟨h6, _⟩ := isThing_doc th h2
        wtm_at "w"
        refine vx_tup hr (at_getD 1 (by omega)) ?_
        wtm_at "w"
        refine vsl_tup hr (fun p H1 k1 h => ?_)
        rw [cut_doc h6 ro.one] at h
        exact q p H1 k1 (by rw [l0]; exact h)
      · refine xb_nil (rest (fun z => h2 z.2))
    · refine xb_nil (rest (fun z => h1 z.1))
end
/-! whyv -/
def whyV : Option Str → V
  | none => .non
  | some w => .str w
/-! step -/
/-! a step's fault -/
def stepWhy (n f : Int) (bs rs : List Int) (p : Pl) : Option Str :=
  if isThing rs = true then (if hasPl rs p = true then (if holdsB n f rs p (dig n f bs) = true then (if rrB bs rs p = true then none else some ("another round" : Str)) else some ("not this digest" : Str)) else some ("no such place" : Str)) else some ("not a thing" : Str)
abbrev Stp := List Int × Pl
def stpD (s : Stp) : PyData := .tuple [.tuple (s.1.map PyData.int), plD s.2]
def ffault (n f : Int) : Nat → List Int → List Stp → Option (Nat × Str)
  | _, _, [] => none
  | k, bs, s :: r => match stepWhy n f bs s.1 s.2 with
    | some w => some (k, w)
    | none => ffault n f (k + 1) s.1 r
def papFault (n f : Int) (first : List Int) (ss : List Stp) : Option (Nat × Str) := if isThing first = true then ffault n f 1 first ss else some (0, ("not a thing" : Str))
/-- steps that are links, one behind the other -/
def okW (n f : Int) : List Int → List Stp → Prop
  | _, [] => True
  | bs, s :: r => stepWhy n f bs s.1 s.2 = none ∧ okW n f s.1 r
def lastR : List Int → List Stp → List Int
  | bs, [] => bs
  | _, s :: r => lastR s.1 r
theorem okW.ff {n f : Int} : ∀ {ss : List Stp} {bs : List Int} (k : Nat), okW n f bs ss → ffault n f k bs ss = none
  | [], _, _, _ => rfl
  | s :: r, bs, k, h => by rw [ffault, h.1]; exact okW.ff (k + 1) h.2
theorem lastR_at : ∀ (ss : List Stp) (bs : List Int), (bs :: ss.map (·.1))[ss.length]? = some (lastR bs ss)
  | [], bs => rfl
  | s :: r, bs => by
    show (s.1 :: r.map (·.1))[r.length]? = _
    exact lastR_at r s.1
theorem lastR_app : ∀ (a b : List Stp) (bs : List Int), lastR bs (a ++ b) = lastR (lastR bs a) b
  | [], b, bs => rfl
  | s :: r, b, bs => lastR_app r b s.1
theorem okW_app {n f : Int} : ∀ {a b : List Stp} {bs : List Int}, okW n f bs a → okW n f (lastR bs a) b → okW n f bs (a ++ b)
  | [], _, _, _, h => h
  | s :: r, b, bs, h, g => ⟨h.1, okW_app h.2 g⟩
/-! papZ -/
/-! papers, and those that a service makes -/
section
variable {X : Cx} {σ : St} {H : Hp} {Q : VK} {N Vs Ls G : List Str} {k : Nat} {sc : Scope} {a b : Expr} {pos p1 p2 apos : Pos} {nx : St → Hp → Prop} {D : B3} {body : List Stmt}
theorem for_zipS {K : PySem.W.Frag} {a b : Addr} {xs ys : List V} {g : TG} {tb : TS} {D : Ends} {σ : L2.St} {H : Hp} (hl : ys.length ≤ xs.length) (Pv : Nat → L2.St → Hp → Prop) (h0 : Pv 0 σ H) (hq : ∀ i σ H, Pv i σ H → SqL K H a xs ∧ SqL K H b ys)
    (hs : ∀ (i : Nat) (x y : V) (T : Addr) (σ : L2.St) (H : Hp), xs[i]? = some x → ys[i]? = some y → Pv i σ H → H T = none → g (.ref T) σ (upd H T (.tup [x, y])) fun σ2 H2 => tb { D with nx := Pv (i + 1), ct := Pv (i + 1), bk := D.nx } σ2 H2) (hd : ∀ σ H, Pv ys.length σ H → D.nx σ H) :
    ∃ W : Nat → Nat → L2.St → Hp → Prop, (∃ m, W 0 m σ H) ∧ ∀ i m σ H, W i m σ H →
      ((Itz K a b).stop i H ∧ D.nx σ H) ∨ ((Itz K a b).go i H ∧ ∃ N : L2.St → Hp → Prop, (∀ σ' H', N σ' H' → ∃ m', m' < m ∧ W (i + 1) m' σ' H') ∧ ∀ v H', (Itz K a b).yld i H v H' → g v σ H' fun σ2 H2 => tb { D with nx := N, ct := N, bk := D.nx } σ2 H2) := by
  refine ⟨fun i m σ H => m = ys.length - i ∧ i ≤ ys.length ∧ Pv i σ H, ⟨ys.length, rfl, Nat.zero_le _, h0⟩, ?_⟩
  rintro i m σ H ⟨rfl, hi, p⟩
  obtain ⟨qx, qy⟩ := hq i σ H p
  by_cases hlt2 : i < ys.length
  · have hlt : i < xs.length := by omega
    have hx : xs[i]? = some xs[i] := List.getElem?_eq_getElem hlt
    have hy : ys[i]? = some ys[i] := List.getElem?_eq_getElem hlt2
    refine .inr ⟨⟨xs, ys, _, _, qx, qy, hx, hy⟩, Pv (i + 1), fun σ' H' p' => ⟨ys.length - (i + 1), by omega, rfl, hlt2, p'⟩, fun v H' y => ?_⟩
    obtain ⟨T, x', y', rfl, hT, rfl, f1, f2⟩ := y
    exact hs i x' y' T σ H (f1 xs qx) (f2 ys qy) p hT
  · have e : i = ys.length := by omega
    subst e
    exact .inl ⟨⟨xs, ys, qx, qy, Or.inr (Nat.le_refl _)⟩, hd σ H p⟩
/-- for a, b in zip of two lists, the second one not longer -/
theorem xs_forZS {elts : List Expr} {kk : Nat} {tpos : Pos} (C : Ctx X sc N Vs Ls G k) (hg : Mem G "zip") (hm : X.mg "zip" = none) (h : XA X [a, b] σ H fun vs H1 => ∃ p q xs ys, vs = [.ref p, .ref q] ∧ SqL X.K H1 p xs ∧ SqL X.K H1 q ys ∧ ys.length ≤ xs.length ∧ ∃ Pv : Nat → St → Hp → Prop, Pv 0 σ H1 ∧
    (∀ i σ' H', Pv i σ' H' → SqL X.K H' p xs ∧ SqL X.K H' q ys) ∧ (∀ i x y T σ' H' H2, xs[i]? = some x → ys[i]? = some y → Pv i σ' H' → Kp [] H' H2 → SqT X.K H2 T [x, y] → XG X (.Tuple elts kk tpos) (.ref T) σ' H2 fun σ3 H3 => XB X body (Pv (i + 1)) ⟨D.rt, nx, Pv (i + 1)⟩ σ3 H3) ∧ ∀ σ' H', Pv ys.length σ' H' → nx σ' H')
    (hs : starEach [a, b] X.env = (false, eval a X.env) :: starEach [b] X.env := by rfl) (hpl : (backTo p2 (starEach [b] X.env)).any (·.1) = false := by rfl) (hfs : ∀ x, foldedSetIterable (.Call (.Name "zip" p1) [a, b] [] p2) X.env x = pure x := by intro _; rfl) : XS X (.For (.Tuple elts kk tpos) (.Call (.Name "zip" p1) [a, b] [] p2) body [] pos) nx D σ H := by
  refine ⟨_, ps_for C.po C.calm (pi_zip (C.gl hg) hm XA.pa hs hpl) XG.pg XB.ps hfs, ?_⟩
  refine XA.mono h fun vs H1 ⟨p, q, xs, ys, e, hx, hy, hl, Pv, h0, hq, hs, hd⟩ => ⟨p, q, xs, ys, e, hx, hy, ?_⟩
  exact for_zipS (K := X.K) (a := p) (b := q) (xs := xs) (ys := ys) (D := ⟨nx, D.rt, D.bk, D.ct⟩) (g := XG X (.Tuple elts kk tpos)) (tb := fun D σ H => XB X body D.nx ⟨D.rt, D.bk, D.ct⟩ σ H) hl Pv h0 hq
    (fun i x y T σ H hx hy hp hT => hs i x y T σ H _ hx hy hp (Kp.new hT) (.inl (.inl upd_same))) hd
/-- the place of a number in a list -/
def ixI : List Int → Int → Nat
  | [], _ => 0
  | n :: ns, v => if n = v then 0 else ixI ns v + 1
theorem ixI_at : ∀ {ns : List Int} {v : Int}, v ∈ ns → ns[ixI ns v]? = some v ∧ ∀ (m : Nat) (z : Int), m < ixI ns v → ns[m]? = some z → z ≠ v
  | [], v, h => nomatch h
  | n :: ns, v, h => by
    rw [ixI]
    by_cases e : n = v
    · rw [if_pos e]; exact ⟨by rw [e]; rfl, fun m z hm => absurd hm (Nat.not_lt_zero _)⟩
    · rw [if_neg e]
      have h' : v ∈ ns := (List.mem_cons.mp h).resolve_left (fun z => e z.symm)
      obtain ⟨h1, h2⟩ := ixI_at h'
      refine ⟨by simpa using h1, fun m z hm hz => ?_⟩
      cases m with
      | zero =>
        have : n = z := by simpa using hz
        rw [← this]; exact e
      | succ m => exact h2 m z (by omega) (by simpa using hz)
theorem xe_index (h : XE X a σ H fun x H1 => ∃ (l : Addr) (ns : List Int), x = .ref l ∧ SqL X.K H1 l (ns.map V.int) ∧ XE X b σ H1 fun y H2 => ∃ v, y = .int v ∧ SqL X.K H2 l (ns.map V.int) ∧ v ∈ ns ∧ Q (.int (ixI ns v : Nat)) H2)
    (hbase : attributeBase a "index" X.env (eval a X.env) = eval a X.env := by rfl) (hs : starEach (b :: []) X.env = (false, eval b X.env) :: starEach [] X.env := by rfl) (hline : (apos.endLine == pos.line) = true := by rfl)
    (hfew : ((backTo pos (starEach [b] X.env)).all (fun x => !x.1) && (backToKw pos (keywordEach [] X.env)).all (fun x => x.1.isSome) && decide (([b] : List Expr).length + ([] : List Keyword).length + (if ([] : List Keyword).isEmpty then 0 else 1) < 30)) = true := by rfl)
    : XE X (.Call (.Attribute a "index" apos) [b] [] pos) σ H Q := by
  refine ⟨_, pe_bm PySem.F.plainAttrs_list PySem.F.slot_list_index PySem.F.type_list_index mt_index XE.pe XA.pa hbase hfew hline hs, ?_⟩
  refine XE.mono h fun y H1 ⟨l, ns, e, hl, q⟩ => ?_
  subst e
  refine ⟨.inl ⟨rfl, _, hl⟩, xa_cons (hs := hs) (XE.mono q fun z H2 ⟨v, ez, hl2, hv, q⟩ => xa_nil ?_)⟩
  subst ez
  obtain ⟨i1, i2⟩ := ixI_at hv
  refine ⟨l, ns.map V.int, .int v, ixI ns v, .int v, rfl, rfl, hl2, rfl, by simp [flatV], by rw [List.getElem?_map, i1]; rfl, by simp [eqV], fun m z' hm hz => ?_, q⟩
  obtain ⟨n, hn, rfl⟩ := map_at hz
  have := i2 m n hm hn
  simp [eqV, this]
end
/-! papF -/
section
local macro_rules | `(tactic| wtm_at "d") => `(tactic| first | ((with_reducible show Z.XE _ (PySem.Expr.Call (PySem.Expr.Name "list" _) (_ :: _) [] _) _ _ _); refine Z.xe_callTy (id := "list") (by assumption) (by wtm_at "m") T.b_list (by decide +kernel) ?_) | ((with_reducible show Z.XE _ (PySem.Expr.Name "list" _) _ _ _); refine Z.xe_ty (id := "list") (by assumption) (by wtm_at "m") T.b_list (by decide +kernel) ?_) | fail)
def papF (fr : V) (st : Addr) : List (Str × V) := putF "steps" (.ref st) (putF "first" fr [])
theorem pap_f (fr : V) (st : Addr) : (papF fr st).lookup ("first" : Str) = some fr := by
  unfold papF; rw [lookup_putF, if_neg (by decide +kernel), lookup_putF, if_pos rfl]
theorem pap_s (fr : V) (st : Addr) : (papF fr st).lookup ("steps" : Str) = some (.ref st) := by
  unfold papF; rw [lookup_putF, if_pos rfl]
def sp_Paper (K : PySem.W.Frag) (C : Addr) : Sp := fun vs H Q _ => ∃ (z dx l : Addr) (fr : V) (xs : List V), vs = [.ref z, fr, .ref l] ∧ H z = some (.ins C dx []) ∧ SqL K H l xs ∧ ∀ st H', Kp [z] H H' → H' z = some (.ins C dx (papF fr st)) → H st = none → H' st = some (.lst xs) → Q .non H'
theorem ok_Paper (T : Txt P w K mg base) : ClsOk P w K mg base "Paper" T.C_Paper ["self", "first", "steps"] 1 (sp_Paper K T.C_Paper) := by
  obtain ⟨f, fd, M, F, b⟩ := T.mk_Paper
  refine ⟨f, fd, fnOk_by F sc_Paper___init__ oc_Paper___init__ (fun vs H Q E h => ?_) (fun X e1 e2 e3 e4 e5 C H vs Q E h => ?_), T.mg_Paper, M, b⟩
  · obtain ⟨z, dx, l, fr, xs, rfl, _⟩ := h; rfl
  · obtain ⟨z, dx, l, fr, xs, rfl, h1, hl, q⟩ := h
    wtm_at "go"
    refine xs_fld ?_
    wtm_at "w"
    refine ⟨z, _, dx, _, rfl, h1, T.cl_Paper, T.na_Paper_first, by decide, fun H1 k1 e1 => ?_⟩
    have hl1 : SqL X.K H1 l xs := by
      rcases hl with (h | ⟨o, h⟩) | h
      · exact .inl (.inl (k1.at1 (fun e => by rw [e, h1] at h; cases h) h))
      · exact .inl (.inr ⟨o, k1.z _ _ _ h⟩)
      · exact .inr h
    wtm_at "w"
    refine xs_fld ?_
    wtm_at "w"
    refine vc_listL hl1 (fun st H2 k2 n2 h2 => ?_)
    wtm_at "w"
    refine ⟨z, _, dx, _, rfl, k2.at0 e1, T.cl_Paper, T.na_Paper_steps, by show 1 < 1000; decide, fun H3 k3 e3 => ?_⟩
    wtm_at "w"
    exact q st H3 ((k1.tr0 k2).tr1 k3 (.inl (by simp))) e3 (k1.n _ n2) (k3.at1 (ne_of_none e1 n2).symm h2)
end
/-! ppat -/
/-- a paper at p -/
def PpAt (K : PySem.W.Frag) (CP : Addr) (H : Hp) (p : Addr) (first : List Int) (ss : List Stp) : Prop := ∃ (dx fr st : Addr) (vs : List V), H p = some (.ins CP dx (papF (.ref fr) st)) ∧ H st = some (.lst vs) ∧ DpAll K H vs (ss.map stpD) ∧ SqT K H fr (first.map V.int)
theorem PpAt.kp {K : PySem.W.Frag} {CP : Addr} {H H' : Hp} {p : Addr} {first : List Int} {ss : List Stp} (h : PpAt K CP H p first ss) (k : Kp [] H H') : PpAt K CP H' p first ss := by
  obtain ⟨dx, fr, st, vs, h1, h2, h3, h4⟩ := h
  exact ⟨dx, fr, st, vs, k.at0 h1, k.at0 h2, dpAll_kp k h3, k.tup h4⟩
/-! enumT -/
/-! enumerate of a tuple or of a list, without a start -/
section
open PyProof.Rows
set_option maxHeartbeats 4000000 in
theorem meets_enumerate_new1 {v : Value} {o : Obj} {H : Heap → Prop} (B : Begins v o H) :
    Meets (Builtin.«enumerate.__new__» ⟨[.type "enumerate", v], []⟩) (fun _ R s => H s.heap ∧
      R (.ok (.ret (.ref (s.heap.push o).objs.size))) { s with heap := (s.heap.push o).push { cls := .type "enumerate", data := .fields #[.none, .bool false, .ref s.heap.objs.size, rawInt 0, .none, .none] } }) :=
  .of_wp fun prog w A R s h => by
    obtain ⟨hp, g, d, tk, os⟩ := s; obtain ⟨h1, h⟩ := h
    have hsub := sub_enumerate
    have q1 : ∀ {A' : Around} {E : Value → Shared → Prop} {Q : Value → Shared → Prop}, Q (.ref hp.objs.size) ⟨hp.push o, g, d, tk, os⟩ → wpAny (model prog w) A' (pyIter v) Q E ⟨hp, g, d, tk, os⟩ :=
      fun q => B.iter prog w _ _ ⟨hp, g, d, tk, os⟩ _ h1 q
    wp_walk using q1
    refine wpAny_stack_any fun st => wpAny_pure ?_
    split
    · rename_i c _ _ _ _ _
      cases (c == Value.type "enumerate")
      · wp_walk using q1
        exact ⟨_, rfl, h⟩
      · wp_walk using q1
        exact ⟨_, rfl, h⟩
    · wp_walk using q1
      exact ⟨_, rfl, h⟩
theorem enum_begins1 {prog : Program} {w : World} {A : Around} {E : Value → Shared → Prop} {s : Shared} {v : Value} {o : Obj} {H : Heap → Prop} {Q : Value → Shared → Prop} (B : Begins v o H) (h1 : H s.heap)
    (h : ∀ h', IsEnum h' (s.heap.objs.size + 1) s.heap.objs.size 0 .none → h'.get? s.heap.objs.size = some o → h'.objs.size = s.heap.objs.size + 2 →
      (∀ b o, s.heap.get? b = some o → h'.get? b = some o) → Q (.ref (s.heap.objs.size + 1)) { s with heap := h' }) :
    wpAny (model prog w) A (call (.type "enumerate") [v]) Q E s := by
  refine callType_new F.called_enumerate (by decide) (F.typeCall_enumerate_1 _) (F.newCall_enumerate_1 _) (fun obj => F.args_object_init_2 obj _) F.entry_enumerate_new
    (meets_enumerate_new1 B) ⟨h1, ?_⟩
  have hz : (s.heap.push o).objs.size = s.heap.objs.size + 1 := Heap.size_push ..
  show _ ∧ _
  rw [hz]
  have he : IsEnum ((s.heap.push o).push { cls := .type "enumerate", data := .fields #[.none, .bool false, .ref s.heap.objs.size, rawInt 0, .none, .none] }) (s.heap.objs.size + 1) s.heap.objs.size 0 .none := by
    have := Heap.get?_push_size (s.heap.push o) (o := { cls := .type "enumerate", data := .fields #[.none, .bool false, .ref s.heap.objs.size, rawInt 0, .none, .none] }) rfl
    rw [hz] at this; exact this
  refine ⟨⟨_, he, rfl⟩, h _ he (Heap.get?_push_of_some _ (Heap.get?_push_size _ B.free)) (by rw [Heap.size_push, hz]) fun b o x => Heap.get?_push_of_some _ (Heap.get?_push_of_some _ x)⟩
/-- the tuple at a, each item in a new pair with its number -/
def IteT (K : PySem.W.Frag) (a : Addr) : It :=
  ⟨fun i H => ∃ (xs : List V) (x : V), SqT K H a xs ∧ xs[i]? = some x, fun i H v H' => ∃ T x, v = .ref T ∧ H T = none ∧ H' = upd H T (.tup [.int (i : Int), x]) ∧ ∀ xs, SqT K H a xs → xs[i]? = some x, fun i H => ∃ xs : List V, SqT K H a xs ∧ xs.length = i⟩
theorem turn_enumT {P : Program} {w : World} {K : PySem.W.Frag} {elts : List Expr} {kk : Nat} {tpos : Pos} (a e it : Addr) (n1 : a ≠ it) (n2 : e ≠ it) (n3 : e ≠ a) :
    Turn P w K (.Tuple elts kk tpos) (IteT K a) [e, it] e (fun i h => (∃ old, IsEnum h e it (i : Int) old) ∧ h.IsTupleIter it a i) where
  mem := by simp
  obj := fun i h st b hb => by
    obtain ⟨⟨old, he⟩, ⟨o, ho, hc, hd⟩⟩ := st
    have e' : b = e ∨ b = it := by simpa using hb
    rcases e' with z | z
    · rw [z]; exact ⟨_, he, fun v q => nomatch q⟩
    · rw [z]; exact ⟨o, ho, fun v q => by rw [hd] at q; cases q⟩
  keep := fun i h h' st k => let ⟨⟨old, he⟩, hi⟩ := st; ⟨⟨old, k e (by simp) _ he⟩, hi.at (k it (by simp))⟩
  item := by
    rintro X rfl rfl rfl hc i pins s σ H E I hf ⟨⟨old, he⟩, hit⟩ ⟨xs, x, lx, ex⟩
    have ⟨its, rv, p, _⟩ := I.tuple lx
    have ⟨u, hu, ru⟩ := rv.get ex
    have D1 := Draws.tuple (prog := X.prog) (w := X.w) (A := X.A.in1) (I.ok.hd hc) it a n1 its.toArray
    have W := GoesN.enumFrom (elts := elts) (x1 := kk) (pos := tpos) 0 D1 e n2 (by simp [n2, n3]) (by simp)
    have b1 : i < its.length := (List.getElem?_eq_some_iff.1 hu).1
    refine W.goes i s (fun v s2 => ∃ x H', Inv X pins σ H' s2 ∧ RelV x v ∧ (IteT X.K a).yld i H x H' ∧ ((∃ old, IsEnum s2.heap e it ((i + 1 : Nat) : Int) old) ∧ s2.heap.IsTupleIter it a (i + 1)) ∧ ∀ b ∈ [e, it], H' b = none) E (by simpa using b1) ⟨⟨old, by rw [Int.zero_add]; exact he⟩, hit, p⟩ ?_
    rintro v h' tk ⟨T, t1, v1, rfl, hn, hv1, hT⟩ ⟨r1, r2, _⟩ hk _
    have c1 : v1 = u := by simpa [hu] using hv1.symm
    subst c1
    rw [Int.zero_add] at hT
    have new : ObjOk X.prog X.w (upd H T (.tup [.int (i : Int), x])) h' T (.tup [.int (i : Int), x]) := ⟨by show 2 ≤ sizeLine; decide, [.int (i : Int) t1, v1], .cons ⟨_, rfl⟩ (.cons ru .nil), hT⟩
    obtain ⟨old1, r1⟩ := r1
    rw [Int.zero_add] at r1
    refine ⟨.ref T, _, I.turnedNew (t' := tk) (ch := [e, it]) (fun c o hb q => hk c o hb q) (fun c hm => hf c hm) hn new, rfl, ⟨T, x, rfl, I.hok.fresh hn, rfl, fun l hl => I.tuple_inj hl lx ▸ ex⟩, ⟨⟨old1, r1⟩, r2⟩, fun c hm => ?_⟩
    have hl : c < s.heap.objs.size := by
      obtain ⟨o2, q2, _⟩ := hit
      simp only [List.mem_cons, List.not_mem_nil, or_false] at hm
      rcases hm with rfl | rfl
      · exact Heap.lt_size he
      · exact Heap.lt_size q2
    exact (upd_ne (Nat.ne_of_lt (Nat.lt_of_lt_of_le hl hn))).trans (hf c hm).1
  done := by
    rintro X rfl rfl rfl hc i pins s σ H E I hf ⟨⟨old, he⟩, hit⟩ ⟨xs, lx, ex⟩
    have ⟨its, rv, p, _⟩ := I.tuple lx
    have D1 := Draws.tuple (prog := X.prog) (w := X.w) (A := X.A.in1) (I.ok.hd hc) it a n1 its.toArray
    have W := GoesN.enumFrom (elts := elts) (x1 := kk) (pos := tpos) 0 D1 e n2 (by simp [n2, n3]) (by simp)
    have hi : its.toArray.size = i := by
      have l1 := rv.length
      simp; omega
    refine W.stops s (fun s1 => Inv X pins σ H s1) E (by rw [hi]; exact ⟨⟨old, by rw [Int.zero_add]; exact he⟩, hit, p⟩) ?_
    intro h' tk hk _
    exact I.turnedL (t' := tk) (ch := [e, it]) (fun c o hb q => hk c o hb q) fun c hm => hf c hm
  self := fun A i s Q E st h => let ⟨⟨_, he⟩, _⟩ := st; wpAny_pyIter_enum he h
def iEnumT (K : PySem.W.Frag) (ta : TA) : TI := fun σ H R => ta σ H fun vs H1 => ∃ a xs, vs = [.ref a] ∧ SqT K H1 a xs ∧ R (IteT K a) H1
theorem pi_enumT {X : Cx} {e : Expr} {ta : TA} {p pos tpos : Pos} {elts : List Expr} {kk : Nat} (hg : Gl X "enumerate") (hm : X.mg "enumerate" = none) (ha : PA X [e] ta) (hst : starEach [e] X.env = [(false, eval e X.env)] := by rfl) :
    PI X (.Tuple elts kk tpos) (.Call (.Name "enumerate" p) [e] [] pos) (iEnumT X.K ta) where
  run := by
    intro pins s σ H R I h
    refine PyProof.Rows.Call_ (ld_blt I hg hm PyProof.Rows.boot_enumerate (PyProof.Rows.callWith_type1 (thn (ha.run pos pins s σ H _ I h) ?_) hst rfl))
    rintro us s1 ⟨vs, H1, I1, r1, a, xs, rfl, lx, q⟩
    match us, r1 with
    | [_], .cons r .nil =>
      cases r
      have ⟨its, _, p1, _⟩ := I1.tuple lx
      have la : a < s1.heap.objs.size := have ⟨_, e, _⟩ := p1; Heap.lt_size e
      refine enum_begins1 (begins_tuple a its.toArray) p1 fun h' q1 q2 _ hk => wpAny_pyIter_enum q1 ?_
      refine ⟨_, [s1.heap.objs.size + 1, s1.heap.objs.size], _, _, H1, rfl, I1.kept (t' := s1.toks) hk, turn_enumT a _ _ (Nat.ne_of_lt la) (Nat.succ_ne_self _) (Nat.ne_of_gt (Nat.lt_succ_of_lt la)), ⟨⟨.none, by simpa using q1⟩, ⟨_, q2, rfl, rfl⟩⟩, fun c hm => ?_, q⟩
      have hl : s1.heap.objs.size ≤ c := by
        simp only [List.mem_cons, List.not_mem_nil, or_false] at hm
        rcases hm with rfl | rfl <;> first | exact Nat.le_refl _ | exact Nat.le_add_right _ _
      exact I1.fpOk hl (I1.hok.fresh hl)
end
/-! enumC -/
/-! [.. for i, x in enumerate(..)] -/
theorem lc_it {J : It} {n : Nat} {g : TG} {tt : TT} {te : TE} {vs : List Nat} {σ : L2.St} {H1 : Hp} {D : Addr} {Qd : Hp → Prop} (Pv : Nat → Hp → Prop) (h0 : Pv 0 (upd H1 D (.lst []))) (hgo : ∀ i H, i < n → Pv i H → J.go i H) (hst : ∀ H, Pv n H → J.stop n H)
    (hs : ∀ i H, i < n → Pv i H → ∀ x H', J.yld i H x H' → g x (wipe σ vs) H' fun σ2 H2 => wipe σ2 vs = wipe σ vs ∧ tt σ2 H2 fun b H3 =>
      if b = true then te σ2 H3 fun y H4 => ∃ acc, H4 D = some (.lst acc) ∧ acc.length < sizeLine ∧ Pv (i + 1) (upd H4 D (.lst (acc ++ [y]))) else Pv (i + 1) H3) (hd : ∀ H, Pv n H → Qd H) :
    ∃ W : Nat → Nat → Hp → Prop, (∃ m, W 0 m (upd H1 D (.lst []))) ∧ ∀ i m H, W i m H →
      (J.stop i H ∧ Qd H) ∨ (J.go i H ∧ ∃ Nx : Hp → Prop, (∀ H', Nx H' → ∃ m', m' < m ∧ W (i + 1) m' H') ∧ ∀ x H', J.yld i H x H' → g x (wipe σ vs) H' fun σ2 H2 => wipe σ2 vs = wipe σ vs ∧ tt σ2 H2 fun b H3 =>
        if b = true then te σ2 H3 fun y H4 => ∃ acc, H4 D = some (.lst acc) ∧ acc.length < sizeLine ∧ Nx (upd H4 D (.lst (acc ++ [y]))) else Nx H3) := by
  refine ⟨fun i m H => m = n - i ∧ i ≤ n ∧ Pv i H, ⟨n, by simp, Nat.zero_le _, h0⟩, ?_⟩
  rintro i m H ⟨rfl, hi, p⟩
  by_cases hlt : i < n
  · exact .inr ⟨hgo i H hlt p, Pv (i + 1), fun H' p' => ⟨n - (i + 1), by omega, rfl, hlt, p'⟩, hs i H hlt p⟩
  · have e : i = n := by omega
    subst e
    exact .inl ⟨hst H p, hd H p⟩
section
variable {X : Cx} {σ σ' : L2.St} {H : Hp} {Q : VK} {N Vs Ls G Vs' G' : List Str} {k i j kt : Nat} {sc scope : Scope} {elt e : Expr} {ifs : List Expr} {p p1 p2 p3 pos : Pos} {nm nm2 : Str}
theorem xlc_ET2 (C : Ctx X sc N Vs Ls G k) (O : LcOk2 sc scope N Vs' G' nm nm2 i j ifs) (hg : Mem G "enumerate") (hm : X.mg "enumerate" = none)
    (h : XA X [e] σ H fun vs H1 => ∃ a xs, vs = [.ref a] ∧ SqT X.K H1 a xs ∧ ∀ L H2, Kp [] H1 H2 → H1 L = none → H2 L = some (.lst []) → ∃ Pv : Nat → Hp → Prop, Pv 0 H2 ∧ (∀ t H', t ≤ xs.length → Pv t H' → SqT X.K H' a xs) ∧
      (∀ t y T H' H'', xs[t]? = some y → Pv t H' → Kp [] H' H'' → H' T = none → SqT X.K H'' T [.int (t : Int), y] → XTurn2 X sc scope N Vs' G' k nm nm2 ifs elt σ (.ref T) H'' L (Pv (t + 1))) ∧ ∀ H', Pv xs.length H' → Q (.ref L) H')
    (hst : starEach [e] X.env = [(false, eval e X.env)] := by rfl) : XLC X elt (.Tuple [.Name nm p1, .Name nm2 p2] kt p3) (.Call (.Name "enumerate" p) [e] [] pos) ifs scope σ H Q := by
  refine ⟨_, gTwo X.K i j, ttC X scope ifs, teC X scope elt, [(nm, i), (nm2, j)], pi_enumT (C.gl hg) hm XA.pa hst, blkOk_by (by rw [C.hN, C.esc]; exact O.blk), fun _ _ _ _ _ => pg_two C O, fun _ _ _ _ _ => pts_blk O.one, fun _ _ _ _ _ => pe_blk,
    fun σ H R R' m h => h.mono fun vs H1 ⟨a, xs, e, h1, q⟩ => ⟨a, xs, e, h1, m _ _ q⟩, ?_⟩
  refine h.mono fun vs H1 ⟨a, xs, e, hx, h⟩ => ⟨a, xs, e, hx, fun L hL => ?_⟩
  obtain ⟨Pv, h0, hl, hs, hd⟩ := h L _ (Kp.new hL) hL upd_same
  refine lc_it (n := xs.length) Pv h0 (fun t H hi p => ⟨xs, xs[t], hl t H (Nat.le_of_lt hi) p, List.getElem?_eq_getElem hi⟩) (fun H p => ⟨xs, hl _ H (Nat.le_refl _) p, rfl⟩) (fun t H hi p x H' y => ?_) hd
  obtain ⟨T, z, rfl, hT, rfl, hz⟩ := y
  exact turn_ok2 C O (hs t z T H _ (hz xs (hl t H (Nat.le_of_lt hi) p)) p (Kp.new hT) hT (.inl (.inl upd_same)))
theorem xlc_EL2 (C : Ctx X sc N Vs Ls G k) (O : LcOk2 sc scope N Vs' G' nm nm2 i j ifs) (hg : Mem G "enumerate") (hm : X.mg "enumerate" = none)
    (h : XA X [e] σ H fun vs H1 => ∃ a xs, vs = [.ref a] ∧ SqL X.K H1 a xs ∧ ∀ L H2, Kp [] H1 H2 → H1 L = none → H2 L = some (.lst []) → ∃ Pv : Nat → Hp → Prop, Pv 0 H2 ∧ (∀ t H', t ≤ xs.length → Pv t H' → SqL X.K H' a xs) ∧
      (∀ t y T H' H'', xs[t]? = some y → Pv t H' → Kp [] H' H'' → H' T = none → SqT X.K H'' T [.int (t : Int), y] → XTurn2 X sc scope N Vs' G' k nm nm2 ifs elt σ (.ref T) H'' L (Pv (t + 1))) ∧ ∀ H', Pv xs.length H' → Q (.ref L) H')
    (hst : starEach [e] X.env = [(false, eval e X.env)] := by rfl) : XLC X elt (.Tuple [.Name nm p1, .Name nm2 p2] kt p3) (.Call (.Name "enumerate" p) [e] [] pos) ifs scope σ H Q := by
  refine ⟨_, gTwo X.K i j, ttC X scope ifs, teC X scope elt, [(nm, i), (nm2, j)], pi_enum (C.gl hg) hm XA.pa hst, blkOk_by (by rw [C.hN, C.esc]; exact O.blk), fun _ _ _ _ _ => pg_two C O, fun _ _ _ _ _ => pts_blk O.one, fun _ _ _ _ _ => pe_blk,
    fun σ H R R' m h => h.mono fun vs H1 ⟨a, xs, e, h1, q⟩ => ⟨a, xs, e, h1, m _ _ q⟩, ?_⟩
  refine h.mono fun vs H1 ⟨a, xs, e, hx, h⟩ => ⟨a, xs, e, hx, fun L hL => ?_⟩
  obtain ⟨Pv, h0, hl, hs, hd⟩ := h L _ (Kp.new hL) hL upd_same
  refine lc_it (n := xs.length) Pv h0 (fun t H hi p => ⟨xs, xs[t], hl t H (Nat.le_of_lt hi) p, List.getElem?_eq_getElem hi⟩) (fun H p => ⟨xs, hl _ H (Nat.le_refl _) p, Nat.le_refl _⟩) (fun t H hi p x H' y => ?_) hd
  obtain ⟨T, z, rfl, hT, rfl, hz⟩ := y
  exact turn_ok2 C O (hs t z T H _ (hz xs (hl t H (Nat.le_of_lt hi) p)) p (Kp.new hT) hT (.inl (.inl upd_same)))
end
/-! forK -/
/-! for k in a dict (numbers for keys): the dict is locked meanwhile -/
theorem Kp.lock {H : Hp} {d : Addr} {u : HO} {od : Obj} (h : H d = some u) (m : Mu u = true) : Kp [d] H (upd H d (.frz od u)) := Kp.set h m
theorem Kp.unlock {A : List Addr} {H H1 : Hp} {d : Addr} {u : HO} {od : Obj} (h : H d = some u) (m : Mu u = true) (k : Kp A (upd H d (.frz od u)) H1) : Kp A H (upd H1 d u) := by
  have nd : ∀ q xs, H q = some (.tup xs) → q ≠ d := fun q xs e z => by rw [z, h] at e; cases e; cases m
  have nz : ∀ q o w, H q = some (.frz o w) → q ≠ d := fun q o w e z => by rw [z, h] at e; cases e; cases m
  constructor
  case k =>
    first
    | (intro q o hq e
       by_cases z : q = d
       · subst z; rw [upd_same]; rw [h] at e; exact e
       · rw [upd_ne z]; exact k.k q o hq (by rw [upd_ne z]; exact e))
    | (intro q o hq nt e
       by_cases z : q = d
       · subst z; rw [upd_same]; rw [h] at e; exact e
       · rw [upd_ne z]; exact k.k q o hq nt (by rw [upd_ne z]; exact e))
  case t =>
    intro q xs e
    have z := nd q xs e
    rw [upd_ne z]; exact k.t q xs (by rw [upd_ne z]; exact e)
  case z =>
    intro q o w e
    have z := nz q o w e
    rw [upd_ne z]; exact k.z q o w (by rw [upd_ne z]; exact e)
  case n =>
    intro q e
    by_cases z : q = d
    · subst z; rw [upd_same] at e; cases e
    · rw [upd_ne z] at e
      have := k.n q e
      rw [upd_ne z] at this; exact this
  all_goals
    (intro q g
     have ne : q ≠ d := by
       rintro rfl
       obtain ⟨ps, e, _⟩ := g
       rw [h] at e; cases e; cases m
     obtain ⟨ps, e, t⟩ := g
     obtain ⟨ps, e, t⟩ := k.b q ⟨ps, by rw [upd_ne ne]; exact e, t⟩
     exact ⟨ps, by rw [upd_ne ne]; exact e, t⟩)
theorem for_keys {d : Addr} {od : Obj} {kvs : List (Key × V)} {g : TG} {tb : TS} {D : Ends} {σ : L2.St} {H : Hp} (Pv : Nat → L2.St → Hp → Prop) (h0 : Pv 0 σ H) (hq : ∀ i σ H, i ≤ kvs.length → Pv i σ H → H d = some (.frz od (.dK kvs)))
    (hs : ∀ (i : Nat) (k : Key) (v : V) (σ : L2.St) (H : Hp), kvs[i]? = some (k, v) → Pv i σ H → g (kV k) σ H fun σ2 H2 => tb ⟨Pv (i + 1), D.rt, D.nx, Pv (i + 1)⟩ σ2 H2) (hd : ∀ σ H, Pv kvs.length σ H → D.nx σ H) :
    ∃ W : Nat → Nat → L2.St → Hp → Prop, (∃ m, W 0 m σ H) ∧ ∀ i m σ H, W i m σ H →
      ((Itk d od kvs).stop i H ∧ D.nx σ H) ∨ ((Itk d od kvs).go i H ∧ ∃ N : L2.St → Hp → Prop, (∀ σ' H', N σ' H' → ∃ m', m' < m ∧ W (i + 1) m' σ' H') ∧ ∀ v H', (Itk d od kvs).yld i H v H' → g v σ H' fun σ2 H2 => tb { D with nx := N, ct := N, bk := D.nx } σ2 H2) := by
  refine ⟨fun i m σ H => i ≤ kvs.length ∧ m + i = kvs.length ∧ Pv i σ H, ⟨_, Nat.zero_le _, rfl, h0⟩, ?_⟩
  rintro i m σ H ⟨hi, hm, p⟩
  have qx := hq i σ H hi p
  rcases Nat.lt_or_ge i kvs.length with lt | ge
  · refine .inr ⟨⟨qx, lt⟩, Pv (i + 1), fun σ' H' p' => ⟨m - 1, by omega, lt, by omega, p'⟩, ?_⟩
    rintro v H' ⟨rfl, k, w, e, rfl⟩
    exact hs i k w σ _ e p
  · obtain rfl : i = kvs.length := Nat.le_antisymm hi ge
    exact .inl ⟨⟨qx, Nat.le_refl _⟩, hd σ H p⟩
section
variable {X : Cx} {σ : L2.St} {H : Hp} {N Vs Ls G : List Str} {k : Nat} {sc : Scope} {tg iter : Expr} {pos : Pos} {nx : L2.St → Hp → Prop} {D : B3} {body : List Stmt}
/-- d is what iter gives, locked from the start -/
theorem xs_forK (C : Ctx X sc N Vs Ls G k) {d : Addr} {kvs : List (Key × V)} (hd : H d = some (.dK kvs))
    (h : ∀ (od : Obj) (H1 : Hp), Kp [d] H H1 → H1 d = some (.frz od (.dK kvs)) → (∀ A H2, Kp A H1 H2 → Kp A H (upd H2 d (.dK kvs))) → XE X iter σ H1 fun v H2 => v = .ref d ∧ H2 d = some (.frz od (.dK kvs)) ∧ ∃ Pv : Nat → L2.St → Hp → Prop, Pv 0 σ H2 ∧
      (∀ i σ' H', i ≤ kvs.length → Pv i σ' H' → H' d = some (.frz od (.dK kvs))) ∧
      (∀ i kk v σ' H', kvs[i]? = some (kk, v) → Pv i σ' H' → XG X tg (kV kk) σ' H' fun σ2 H2 => XB X body (Pv (i + 1)) ⟨fun v H' => H' d = some (.frz od (.dK kvs)) ∧ D.rt v (upd H' d (.dK kvs)), fun σ' H' => H' d = some (.frz od (.dK kvs)) ∧ nx σ' (upd H' d (.dK kvs)), Pv (i + 1)⟩ σ2 H2) ∧
      ∀ σ' H', Pv kvs.length σ' H' → nx σ' (upd H' d (.dK kvs)))
    (hs : ∀ x, foldedSetIterable iter X.env x = pure x := by intro _; rfl) : XS X (.For tg iter body [] pos) nx D σ H := by
  refine ⟨_, ps_lock (ps_for C.po C.calm (pi_keys XE.pe) XG.pg XB.ps hs), d, .dK kvs, hd, by trivial, fun od => ?_⟩
  refine XE.mono (h od _ (Kp.lock hd rfl) upd_same fun A H2 k2 => Kp.unlock hd rfl k2) fun v H2 ⟨e, h2, Pv, h0, hq, hs, hdn⟩ => ⟨d, od, e, .inl ⟨kvs, h2, ?_⟩⟩
  refine for_keys (d := d) (od := od) (kvs := kvs) (D := ⟨fun σ' H' => H' d = some (.frz od (.dK kvs)) ∧ nx σ' (upd H' d (.dK kvs)), fun v H' => H' d = some (.frz od (.dK kvs)) ∧ D.rt v (upd H' d (.dK kvs)), fun σ' H' => H' d = some (.frz od (.dK kvs)) ∧ D.bk σ' (upd H' d (.dK kvs)), fun σ' H' => H' d = some (.frz od (.dK kvs)) ∧ D.ct σ' (upd H' d (.dK kvs))⟩) (g := XG X tg) (tb := fun D σ H => XB X body D.nx ⟨D.rt, D.bk, D.ct⟩ σ H) Pv h0 hq hs (fun σ' H' p => ⟨hq _ _ _ (Nat.le_refl _) p, hdn σ' H' p⟩)
end
/-! xext -/
/-- xs.extend(ys) -/
theorem xe_extend {X : Cx} {σ : St} {H : Hp} {Q : VK} {a b : Expr} {pos apos : Pos} (h : XE X a σ H fun y H1 => ∃ l xs, y = .ref l ∧ H1 l = some (.lst xs) ∧ XE X b σ H1 fun z H2 => H2 l = some (.lst xs) ∧ ∃ p zs, z = .ref p ∧ H2 p = some (.lst zs) ∧ xs.length + zs.length ≤ sizeLine ∧ ∀ H', Kp [l] H2 H' → H' l = some (.lst (xs ++ zs)) → Q .non H')
    (hbase : attributeBase a "extend" X.env (eval a X.env) = eval a X.env := by rfl) (hs : starEach (b :: []) X.env = (false, eval b X.env) :: starEach [] X.env := by rfl) (hline : (apos.endLine == pos.line) = true := by rfl)
    (hfew : ((backTo pos (starEach [b] X.env)).all (fun x => !x.1) && (backToKw pos (keywordEach [] X.env)).all (fun x => x.1.isSome) && decide (([b] : List Expr).length + ([] : List Keyword).length + (if ([] : List Keyword).isEmpty then 0 else 1) < 30)) = true := by rfl)
    : XE X (.Call (.Attribute a "extend" apos) [b] [] pos) σ H Q := by
  refine ⟨_, pe_bm PySem.F.plainAttrs_list PySem.F.slot_list_extend PySem.F.type_list_extend mt_extend XE.pe XA.pa hbase hfew hline hs, ?_⟩
  refine XE.mono h fun y H1 ⟨l, xs, e, hl, q⟩ => ?_
  subst e
  refine ⟨.inl ⟨rfl, xs, .inl (.inl hl)⟩, xa_cons (hs := hs) (XE.mono q fun z H2 ⟨hl2, p, zs, ez, hp, hz, q⟩ => xa_nil ?_)⟩
  exact ⟨l, p, xs, zs, rfl, by rw [ez], hl2, hp, hz, q _ (Kp.set hl2 rfl) upd_same⟩
/-! lcd -/
/-- data listed one after another into the new list at L -/
def LcD (K : PySem.W.Frag) (H0 : Hp) (L : Addr) (ds : List PyData) (t : Nat) (H' : Hp) : Prop := Kp [] H0 H' ∧ ∃ us, H' L = some (.lst us) ∧ DpAll K H' us (ds.take t)
theorem LcD.start {K : PySem.W.Frag} {H0 H1 : Hp} {L : Addr} {ds : List PyData} (k : Kp [] H0 H1) (h : H1 L = some (.lst [])) : LcD K H0 L ds 0 H1 := ⟨k, [], h, .nil⟩
theorem LcD.fin {K : PySem.W.Frag} {H0 H3 H4 : Hp} {L : Addr} {ds : List PyData} {t : Nat} {d : PyData} {z : V} (I : LcD K H0 L ds t H3) (nL : H0 L = none) (k : Kp [] H3 H4) (hn : noLs ds = true) (hd : ds[t]? = some d) (hz : Dp K H4 z d) (ht : t < 100000) :
    ∃ acc, H4 L = some (.lst acc) ∧ acc.length < sizeLine ∧ ∀ H5, Kp [L] H4 H5 → H5 L = some (.lst (acc ++ [z])) → LcD K H0 L ds (t + 1) H5 := by
  obtain ⟨k0, us, hL, hu⟩ := I
  have lu := dpAll_len hu
  rw [List.length_take] at lu
  refine ⟨us, k.at0 hL, szl (by omega), fun H5 k5 h5 => ⟨(k0.tr0 k).tr1 k5 (.inr nL), _, h5, ?_⟩⟩
  rw [List.take_add_one, hd]
  refine dpAll_app (dpAll_kpT k5 (noLs_take _ hn) (dpAll_kp k hu)) (.cons (dp_kpT k5 ?_ hz) .nil)
  clear hu lu hz
  induction ds generalizing t with
  | nil => simp at hd
  | cons x r ih =>
    simp only [noLs, Bool.and_eq_true] at hn
    cases t with
    | zero =>
      have : x = d := by simpa using hd
      rw [← this]; exact hn.1
    | succ t => exact ih hn.2 (by simpa using hd) (by omega)
/-! rowsA -/
/-! the rows of a paper; a paper that is checked -/
def tupD (r : List Int) : PyData := .tuple (r.map PyData.int)
theorem noLs_tup : ∀ rs : List (List Int), noLs (rs.map tupD) = true
  | [] => rfl
  | r :: rs => by simp [noLs, tupD, noL, noLs_ints, noLs_tup rs]
/-! libR -/
/-! a library, as it is read -/
def DkAt (H : Hp) (d : Addr) (kvs : List (Key × V)) : Prop := H d = some (.dK kvs) ∨ ∃ o, H d = some (.frz o (.dK kvs))
def esOf (qs : List (Int × Addr × List Int)) (d : Int) : List Int := match lkA qs d with
  | some z => z.2
  | none => []
structure Know (n f : Int) (ks qs : List (Int × Addr × List Int)) : Prop where
  ky : ∀ k ∈ ks, k.1 = dig n f k.2.2
  nd : ∀ k ∈ ks, lkA ks k.1 = some k.2
  th : ∀ k ∈ ks, isThing k.2.2 = true ∧ RowOk k.2.2 ∧ (k.2.2.getD 0 0 = 4 → 0 ≤ k.2.2.getD 2 0 ∧ k.2.2.getD 2 0 < 2 ^ 69)
  hd : ∀ k ∈ ks, k.2.2.getD 0 0 = 4 → ∃ c es, lkA qs k.1 = some (c, es) ∧ (es.length : Int) = k.2.2.getD 4 0 ∧ rt n f es = k.2.2.getD 5 0 ∧ 1 ≤ es.length ∧ es.length ≤ 500
  no : ∀ k ∈ ks, ¬ k.2.2.getD 0 0 = 4 → lkA qs k.1 = none
  only : ∀ x, lkA ks x = none → lkA qs x = none
structure LibRd (K : PySem.W.Frag) (CL CM : Addr) (H : Hp) (a dx mx dR dE : Addr) (n f : Int) (ks qs : List (Int × Addr × List Int)) : Prop where
  ha : H a = some (.ins CL dx (libF mx dR dE))
  hx : Mx CM H mx n f
  hR : DkAt H dR (kvR ks)
  hE : DkAt H dE (kvR qs)
  rows : ∀ k ∈ ks, SqT K H k.2.1 (k.2.2.map V.int)
  ents : ∀ k ∈ qs, H k.2.1 = some (.lst (k.2.2.map V.int))
  kn : Know n f ks qs
theorem DkAt.kpN {A : List Addr} {H H' : Hp} {d : Addr} {kvs : List (Key × V)} (h : DkAt H d kvs) (k : Kp A H H') (n : ∀ l ∈ A, H l = none) : DkAt H' d kvs := by
  rcases h with h | ⟨o, h⟩
  · exact .inl (k.atN n h)
  · exact .inr ⟨o, k.z _ _ _ h⟩
section
variable {K : PySem.W.Frag} {CL CM a dx mx dR dE b r : Addr} {H H' : Hp} {n f : Int} {ks qs : List (Int × Addr × List Int)}
theorem LibRd.kpN {A : List Addr} (h : LibRd K CL CM H a dx mx dR dE n f ks qs) (k : Kp A H H') (nn : ∀ l ∈ A, H l = none) : LibRd K CL CM H' a dx mx dR dE n f ks qs :=
  ⟨k.atN nn h.ha, (by obtain ⟨d, e⟩ := h.hx; exact ⟨d, k.atN nn e⟩), h.hR.kpN k nn, h.hE.kpN k nn, fun z m => k.tup (h.rows z m), fun z m => k.atN nn (h.ents z m), h.kn⟩
instance : Car H H' (LibRd K CL CM H a dx mx dR dE n f ks qs) (LibRd K CL CM H' a dx mx dR dE n f ks qs) := ⟨fun k n h => h.kpN k n⟩
theorem DkAt.box {d : Addr} {kvs : List (Key × V)} (h : DkAt H d kvs) (bx : Box H b r) (k : Kp [b] H H') : DkAt H' d kvs := by
  rcases h with h | ⟨o, h⟩
  · exact .inl (bx.other k (fun _ z => nomatch z) h)
  · exact .inr ⟨o, k.z _ _ _ h⟩
instance : CarB b r H H' (LibRd K CL CM H a dx mx dR dE n f ks qs) (LibRd K CL CM H' a dx mx dR dE n f ks qs) := ⟨fun bx k h =>
  ⟨bx.other k (fun _ z => nomatch z) h.ha, h.hx.box bx k, h.hR.box bx k, h.hE.box bx k, fun z m => k.tup (h.rows z m), fun z m => k.at1 (bx.neInts (h.ents z m)) (h.ents z m), h.kn⟩⟩
theorem LibAt.rd (h : LibAt K CL CM H a dx mx dR dE n f ks qs) (kn : Know n f ks qs) : LibRd K CL CM H a dx mx dR dE n f ks qs := ⟨h.ha, h.hx, .inl h.hR, .inl h.hE, h.rows, h.ents, kn⟩
theorem DkAt.set {l : Addr} {xs : List V} {d : Addr} {kvs : List (Key × V)} (h : DkAt H d kvs) (hl : H l = some (.lst xs)) (k : Kp [l] H H') : DkAt H' d kvs := by
  rcases h with h | ⟨o, h⟩
  · exact .inl (k.at1 (ne_of h hl (by intro z; cases z)) h)
  · exact .inr ⟨o, k.z _ _ _ h⟩
/-- a library beside a list that is written -/
theorem LibRd.set {l : Addr} {xs : List V} (h : LibRd K CL CM H a dx mx dR dE n f ks qs) (hl : H l = some (.lst xs)) (k : Kp [l] H H') (nq : ∀ k ∈ qs, k.2.1 ≠ l) : LibRd K CL CM H' a dx mx dR dE n f ks qs := by
  obtain ⟨dm, hm⟩ := h.hx
  exact ⟨k.at1 (ne_of h.ha hl (by intro z; cases z)) h.ha, ⟨dm, k.at1 (ne_of hm hl (by intro z; cases z)) hm⟩, h.hR.set hl k, h.hE.set hl k, fun z m => k.tup (h.rows z m), fun z m => k.at1 (nq z m) (h.ents z m), h.kn⟩
theorem LibRd.nq {l : Addr} (h : LibRd K CL CM H a dx mx dR dE n f ks qs) (nl : H l = none) : ∀ k ∈ qs, k.2.1 ≠ l := fun k m e => by
  have := h.ents k m
  rw [e, nl] at this; cases this
/-- while the rows' dict is locked -/
theorem LibRd.lock {o : Obj} (h : LibRd K CL CM H a dx mx dR dE n f ks qs) (k : Kp [dR] H H') (e : H' dR = some (.frz o (.dK (kvR ks)))) (h0 : H dR = some (.dK (kvR ks))) : LibRd K CL CM H' a dx mx dR dE n f ks qs := by
  obtain ⟨dm, hm⟩ := h.hx
  refine ⟨k.at1 (ne_of h.ha h0 (by intro z; cases z)) h.ha, ⟨dm, k.at1 (ne_of hm h0 (by intro z; cases z)) hm⟩, .inr ⟨o, e⟩, ?_, fun z m => k.tup (h.rows z m), fun z m => k.at1 (ne_of (h.ents z m) h0 (by intro z; cases z)) (h.ents z m), h.kn⟩
  rcases h.hE with g | ⟨o', g⟩
  · by_cases z : dE = dR
    · rw [z] at g ⊢
      rw [h0] at g
      have := HO.dK.inj (Option.some.inj g)
      rw [← this]; exact .inr ⟨o, e⟩
    · exact .inl (k.at1 z g)
  · exact .inr ⟨o', k.z _ _ _ g⟩
end
/-- what a word lists, with the places -/
def enumN (w : Str) (l : List Int) : List (Int × Str × Int) := (List.range l.length).map fun i => (l.getD i 0, w, (i : Int))
def heldL (row es : List Int) : List (Int × Str × Int) := enumN "cite" (listN row "cite") ++ enumN "back" (listN row "back") ++ enumN "entry" es
def hD (x : Int × Str × Int) : PyData := .tuple [.int x.1, .tuple [.str x.2.1, .int x.2.2]]
theorem enumN_at {w : Str} {l : List Int} {i : Nat} (h : i < l.length) : (enumN w l)[i]? = some (l.getD i 0, w, (i : Int)) := by
  unfold enumN
  rw [List.getElem?_map, List.getElem?_range h]; rfl
theorem enumN_len {w : Str} {l : List Int} : (enumN w l).length = l.length := by unfold enumN; simp
theorem noL_hD : ∀ xs : List (Int × Str × Int), noLs (xs.map hD) = true
  | [] => rfl
  | x :: r => by simp [noLs, noL, hD, noL_hD r]
theorem listN_len {rs : List Int} (w : Str) : (listN rs w).length ≤ rs.length := by
  unfold listN
  split
  · rw [List.length_take, List.length_drop]; omega
  · split
    · rw [List.length_drop]; omega
    · simp
section
variable {X : Cx} {σ : L2.St} {H : Hp} {Q : VK} {N Vs Ls G : List Str} {k : Nat} {sc : Scope} {e o f : Expr} {apos cpos : Pos}
theorem xe_dget2 (C : Ctx X sc N Vs Ls G k) (h : XE X o σ H fun x H1 => ∃ a, x = .ref a ∧ IsD H1 a ∧ XE X e σ H1 fun y H2 => XE X f σ H2 fun z H3 => ∃ o, DGet H3 a y o ∧ Q (o.getD z) H3) (m : M2 X o "get" apos e f cpos := by exact ⟨rfl, rfl, rfl, rfl⟩) : XE X (.Call (.Attribute o "get" apos) [e, f] [] cpos) σ H Q :=
  ⟨_, pe_dget2 C.hu XE.pe XE.pe XE.pe m, h⟩
end
/-! dget1 -/
/-! d.get(k) -/
section
variable {X : Cx} {σ : St} {H : Hp} {Q : VK} {N Vs Ls G : List Str} {k : Nat} {sc : Scope} {e o : Expr} {apos cpos : Pos}
theorem xe_dget1 (C : Ctx X sc N Vs Ls G k) (h : XE X o σ H fun x H1 => ∃ a, x = .ref a ∧ IsD H1 a ∧ XE X e σ H1 fun y H2 => ∃ o, DGet H2 a y o ∧ Q (o.getD .non) H2) (m : M1 X o "get" apos e cpos := by exact ⟨rfl, rfl, rfl, rfl⟩) : XE X (.Call (.Attribute o "get" apos) [e] [] cpos) σ H Q :=
  ⟨_, pe_dget1 C.hu XE.pe XE.pe m, h⟩
end
/-! held_by -/
section
local macro_rules | `(tactic| wtm_at "d") => `(tactic| first | ((with_reducible show Z.XE _ (PySem.Expr.Call (PySem.Expr.Name "enumerate" _) (_ :: _) [] _) _ _ _); refine Z.xe_callB (id := "enumerate") (by assumption) (by wtm_at "m") T.b_enumerate (by decide +kernel) ?_) | ((with_reducible show Z.XE _ (PySem.Expr.Name "CITE" _) _ _ _); refine Z.xe_glob (v := L2.V.str "cite") (by assumption) (by wtm_at "m") T.c_CITE.choose_spec ⟨_, rfl⟩ ?_) | ((with_reducible show Z.XE _ (PySem.Expr.Name "BACK" _) _ _ _); refine Z.xe_glob (v := L2.V.str "back") (by assumption) (by wtm_at "m") T.c_BACK.choose_spec ⟨_, rfl⟩ ?_) | ((with_reducible show Z.XE _ (PySem.Expr.Name "ENTRY" _) _ _ _); refine Z.xe_glob (v := L2.V.str "entry") (by assumption) (by wtm_at "m") T.c_ENTRY.choose_spec ⟨_, rfl⟩ ?_) | ((with_reducible show Z.XE _ (PySem.Expr.Call (PySem.Expr.Name "listed" _) (_ :: _) [] _) _ _ _); refine Z.xe_call (by assumption) (Law.ok_listed T) (by wtm_at "m") (by omega) ?_) | fail)
local macro_rules | `(tactic| wtm_at "car") => `(tactic| ((try replace W := Z.car k W); (try replace P := Z.car k P); (try replace I := Z.car k I); (try replace li := Z.car k li); (try replace M := Z.car k M); (try replace hd := Z.car k hd); (try replace hl := Z.car k hl); (try replace hr := Z.car k hr); (try replace hq := Z.car k hq); (try replace hL := Z.car k hL); (try replace hus := Z.car k hus); (try replace hx := Z.car k hx); (try replace hy := Z.car k hy); (try replace hid := Z.car k hid); (try replace ha := Z.car k ha); (try replace hes := Z.car k hes); (try replace hk := Z.car k hk); (try replace h1 := Z.car k h1); (try replace h2 := Z.car k h2); (try replace h4 := Z.car k h4); (try replace h5 := Z.car k h5); (try replace h6 := Z.car k h6); (try replace h7 := Z.car k h7); (try replace h8 := Z.car k h8); (try replace h9 := Z.car k h9); (try replace h11 := Z.car k h11); (try replace h30 := Z.car k h30); (try replace d2 := Z.car k d2); (try replace d3 := Z.car k d3); (try replace d4 := Z.car k d4); clear k))
def sp_heldBy (K : PySem.W.Frag) (CL CM : Addr) : Sp := fun vs H Q _ => ∃ (a mx dR dE dx p : Addr) (n f d : Int) (row : List Int) (ks qs : List (Int × Addr × List Int)), vs = [.ref a, .int d] ∧ LibRd K CL CM H a dx mx dR dE n f ks qs ∧ lkA ks d = some (p, row) ∧ ∀ L us H', Kp [] H H' → H L = none → H' L = some (.lst us) → DpAll K H' us ((heldL row (esOf qs d)).map hD) → Q (.ref L) H'
theorem ok__held_by (T : Txt P w K mg base) : MetOk P w K mg base T.C_Library "_held_by" ["self", "mark"] 3 (sp_heldBy K T.C_Library T.C_Mixing) := by
  obtain ⟨fn, fd, M, F, bi⟩ := T.m_Library__held_by
  refine ⟨fn, fd, fnOk_by F sc_Library__held_by oc_Library__held_by (fun vs H Q E h => ?_) (fun X e1 e2 e3 e4 e5 C H vs Q E h => ?_), M, bi⟩
  · obtain ⟨a, mx, dR, dE, dx, p, n, f, d, row, ks, qs, rfl, _⟩ := h; rfl
  · obtain ⟨a, mx, dR, dE, dx, p, n, f, d, row, ks, qs, rfl, li, hk, q⟩ := h
    have mem := lkA_mem hk
    obtain ⟨th, ro, _⟩ := li.kn.th _ mem
    dsimp only at th ro
    have lr := ro.len
    have hr : SqT X.K H p (row.map V.int) := by have := li.rows _ mem; rw [← e3] at this; exact this
    have hr0 := hr
    have li0 := li
    wtm_at "go"
    refine xs_set (by assumption) ?_ (hx := by wtm_at "m") (hl := by wtm_at "m")
    refine xe_dget (by assumption) ?_
    refine xe_fld ?_
    wtm_at "w"
    refine ⟨a, _, dx, _, _, rfl, li.ha, T.cl_Library, T.na_Library__rows, lib_r mx dR dE, ?_⟩
    wtm_at "w"
    refine ⟨dR, .ref p, rfl, .inl ⟨_, .inl d, li.hR, rfl, by rw [valV_kvR, hk]; rfl⟩, ?_⟩
    refine ⟨_, by wtm_at "u", ?_⟩
    refine xb_cons ?_
    refine xs_setLc C (by wtm_at "m") (by decide +kernel) rfl (by decide +kernel) ?_
    refine xlc_ET2 (Vs' := ["index", "held"]) (G' := ["CITE"]) (nm := "index") (nm2 := "held") (i := 5) (j := 6) C ⟨rfl, rfl, by decide, by decide +kernel, by decide +kernel, rfl, by decide +kernel, by decide +kernel, by decide⟩ (by wtm_at "m") T.b_enumerate ?_
    wtm_at "w"
    refine ⟨p, row, _, rfl, hr, th, ro, fun t1 H1 k h1 => ?_⟩
    have hid : Fr [] H H1 := k
    wtm_at "car"
    wtm_at "w"
    have ll1 := listN_len (rs := row) "cite"
    have ll2 := listN_len (rs := row) "back"
    have ll1' : (listN row "cite").length ≤ 10000 := by omega
    have ll2' : (listN row "back").length ≤ 10000 := by omega
    clear ll1 ll2
    refine ⟨t1, _, rfl, h1, fun L H2 k nL hL => ?_⟩
    have nL0 := hid.k.n _ nL
    refine ⟨fun t H' => LcD X.K H1 L ((enumN "cite" (listN row "cite")).map hD) t H', .start k hL, ?_, ?_, ?_⟩
    · rintro t H' _ I
      exact I.1.tup h1
    · rintro t y T1 H3 H4 hy I k4 nT hT
      obtain ⟨v, hv, rfl⟩ := map_at hy
      have hi := (List.getElem?_eq_some_iff.mp hv).1
      have hd1 : ((enumN "cite" (listN row "cite")).map hD)[t]? = some (hD (v, "cite", (t : Int))) := by
        rw [List.getElem?_map, enumN_at hi, List.getD_eq_getElem?_getD, hv]; rfl
      clear k
      refine ⟨T1, _, _, _, _, rfl, hT, by wtm_at "u", by wtm_at "u", ?_⟩
      intro s0 H0 c' cl fp C'
      wtm_at "w"
      intro t5 H5 k5 h5 _
      wtm_at "w"
      intro t6 H6 k6 h6 _
      exact I.fin nL ((k4.tr0 k5).tr0 k6) (noL_hD _) hd1 (.tup h6 (.cons (.int _) (.cons (.tup (k6.tup h5) (.cons (.str _) (.cons (.int _) .nil))) .nil))) (by omega)
    · rintro H3 ⟨k, us, hus, hd⟩
      rw [List.length_map, List.take_of_length_le (by rw [List.length_map, enumN_len]; exact Nat.le_refl _)] at hd
      have hL := hus
      have hr := (hid.k.tr0 k).tup hr0
      have hid3 : Fr [] H H3 := (hid.k.tr0 k : Kp [] H H3)
      have nL1 : H L = none := nL0
      clear hid nL0 h1 nL hus
      have hid := hid3
      clear hid3
      have li : LibRd X.K T.C_Library T.C_Mixing H1 a dx mx dR dE n f ks qs := li
      wtm_at "car"
      have lu := dpAll_len hd
      rw [List.length_map, enumN_len] at lu
      refine ⟨_, by wtm_at "u", ?_⟩
      refine xb_cons ?_
      refine xs_expr ?_
      refine xe_extend ?_
      wtm_at "w"
      refine xe_lc C ?_
      refine xlc_ET2 (Vs' := ["index", "held"]) (G' := ["BACK"]) (nm := "index") (nm2 := "held") (i := 5) (j := 6) C ⟨rfl, rfl, by decide, by decide +kernel, by decide +kernel, rfl, by decide +kernel, by decide +kernel, by decide⟩ (by wtm_at "m") T.b_enumerate ?_
      wtm_at "w"
      refine ⟨p, row, _, rfl, hr, th, ro, fun t2 H4 k h2 => ?_⟩
      have hk : Fr [] H3 H4 := k
      wtm_at "car"
      wtm_at "w"
      refine ⟨t2, _, rfl, h2, fun Lb H5 k nL2 hL2 => ?_⟩
      refine ⟨fun t H' => LcD X.K H4 Lb ((enumN "back" (listN row "back")).map hD) t H', .start k hL2, ?_, ?_, ?_⟩
      · rintro t H' _ I
        exact I.1.tup h2
      · rintro t y T1 H6 H7 hy I k4 nT hT
        obtain ⟨v, hv, rfl⟩ := map_at hy
        have hi := (List.getElem?_eq_some_iff.mp hv).1
        have hd1 : ((enumN "back" (listN row "back")).map hD)[t]? = some (hD (v, "back", (t : Int))) := by
          rw [List.getElem?_map, enumN_at hi, List.getD_eq_getElem?_getD, hv]; rfl
        clear k
        refine ⟨T1, _, _, _, _, rfl, hT, by wtm_at "u", by wtm_at "u", ?_⟩
        intro s0 H0 c' cl fp C'
        wtm_at "w"
        intro t5 H8 k5 h5 _
        wtm_at "w"
        intro t6 H9 k6 h6 _
        exact I.fin nL2 ((k4.tr0 k5).tr0 k6) (noL_hD _) hd1 (.tup h6 (.cons (.int _) (.cons (.tup (k6.tup h5) (.cons (.str _) (.cons (.int _) .nil))) .nil))) (by omega)
      · rintro H6 ⟨k, us2, h30, d2⟩
        rw [List.length_map, List.take_of_length_le (by rw [List.length_map, enumN_len]; exact Nat.le_refl _)] at d2
        wtm_at "car"
        have lu2 := dpAll_len d2
        rw [List.length_map, enumN_len] at lu2
        refine ⟨hL, Lb, _, rfl, h30, sz_ (by omega), fun H7 k7 h7 => ?_⟩
        have d3 : DpAll X.K H7 (us ++ us2) ((enumN "cite" (listN row "cite") ++ enumN "back" (listN row "back")).map hD) := by
          rw [List.map_append]
          exact dpAll_app (dpAll_kpT k7 (noL_hD _) hd) (dpAll_kpT k7 (noL_hD _) d2)
        have hid7 : Kp [] H H7 := hid.k.tr1 k7 (.inr nL1)
        have li := li0.kpN hid7 (fun l m => nomatch m)
        clear hid hk hL h2 h30 hd d2 lu lu2 hL2 nL2 hr
        have lu := dpAll_len d3
        simp only [List.length_map, List.length_append, enumN_len] at lu
        refine xb_cons ?_
        refine xs_set (by assumption) ?_ (hx := by wtm_at "m") (hl := by wtm_at "m")
        refine xe_dget2 (by assumption) ?_
        refine xe_fld ?_
        wtm_at "w"
        refine ⟨a, _, dx, _, _, rfl, li.ha, T.cl_Library, T.na_Library__entries, lib_e mx dR dE, ?_⟩
        refine ⟨dE, rfl, ?_, ?_⟩
        · rcases li.hE with z | ⟨o, z⟩
          · exact .inl ⟨_, .inl z⟩
          · exact .inl ⟨_, .inr ⟨o, z⟩⟩
        wtm_at "w"
        intro l8 H8 k n8 h8
        have hk : Fr [] H7 H8 := k
        have nea0 : l8 ≠ L := (ne_of_none h7 n8).symm
        wtm_at "car"
        have hes : ∃ ea, ((lkA qs d).map fun z => V.ref z.1).getD (.ref l8) = .ref ea ∧ H8 ea = some (.lst ((esOf qs d).map V.int)) ∧ ea ≠ L := by
          unfold esOf
          cases hq : lkA qs d with
          | none => exact ⟨l8, rfl, h8, nea0⟩
          | some z =>
            refine ⟨z.1, rfl, li.ents _ (lkA_mem hq), fun e => ?_⟩
            have g := li0.ents _ (lkA_mem hq)
            dsimp only at g
            rw [e, nL1] at g; cases g
        obtain ⟨ea, ee, h9, nea⟩ := hes
        have les : (esOf qs d).length ≤ 500 := by
          unfold esOf
          by_cases h4 : row.getD 0 0 = 4
          · obtain ⟨c, es, e1, _, _, _, e5⟩ := li.kn.hd _ mem h4
            rw [show lkA qs d = some (c, es) from e1]; exact e5
          · rw [show lkA qs d = none from li.kn.no _ mem h4]; simp
        refine ⟨_, .inl ⟨_, .inl d, li.hE, rfl, rfl⟩, ?_⟩
        rw [valV_kvR, ee]
        refine ⟨_, by wtm_at "u", ?_⟩
        refine xb_cons ?_
        refine xs_expr ?_
        refine xe_extend ?_
        wtm_at "w"
        refine xe_lc C ?_
        refine xlc_EL2 (Vs' := ["index", "held"]) (G' := ["ENTRY"]) (nm := "index") (nm2 := "held") (i := 5) (j := 6) C ⟨rfl, rfl, by decide, by decide +kernel, by decide +kernel, rfl, by decide +kernel, by decide +kernel, by decide⟩ (by wtm_at "m") T.b_enumerate ?_
        wtm_at "w"
        refine ⟨ea, _, rfl, Z.SqL.of' h9, fun Lb H9 k nL2 hL2 => ?_⟩
        refine ⟨fun t H' => LcD X.K H8 Lb ((enumN "entry" (esOf qs d)).map hD) t H', .start k hL2, ?_, ?_, ?_⟩
        · rintro t H' _ I
          exact Z.SqL.of' (I.1.at0 h9)
        · rintro t y T1 H10 H11 hy I k4 nT hT
          obtain ⟨v, hv, rfl⟩ := map_at hy
          have hi := (List.getElem?_eq_some_iff.mp hv).1
          have hd1 : ((enumN "entry" (esOf qs d)).map hD)[t]? = some (hD (v, "entry", (t : Int))) := by
            rw [List.getElem?_map, enumN_at hi, List.getD_eq_getElem?_getD, hv]; rfl
          clear k
          refine ⟨T1, _, _, _, _, rfl, hT, by wtm_at "u", by wtm_at "u", ?_⟩
          intro s0 H0 c' cl fp C'
          wtm_at "w"
          intro t5 H12 k5 h5 _
          wtm_at "w"
          intro t6 H13 k6 h6 _
          exact I.fin nL2 ((k4.tr0 k5).tr0 k6) (noL_hD _) hd1 (.tup h6 (.cons (.int _) (.cons (.tup (k6.tup h5) (.cons (.str _) (.cons (.int _) .nil))) .nil))) (by omega)
        · rintro H10 ⟨k, us4, h30, d4⟩
          rw [List.length_map, List.take_of_length_le (by rw [List.length_map, enumN_len]; exact Nat.le_refl _)] at d4
          wtm_at "car"
          have lu4 := dpAll_len d4
          rw [List.length_map, enumN_len] at lu4
          refine ⟨h7, Lb, _, rfl, h30, sz_ (by rw [List.length_append]; omega), fun H11 k9 h11 => ?_⟩
          have k711 : Kp [L] H7 H11 := (hk.k.wk (fun l m => nomatch m)).tr k9 (fun l m => .inl m)
          wtm_at "w"
          refine q L _ H11 (hid7.tr1 k711 (.inr nL1)) nL1 h11 ?_
          unfold heldL
          rw [List.map_append]
          exact dpAll_app (dpAll_kpT k9 (noL_hD _) d3) (dpAll_kpT k9 (noL_hD _) d4)
end
/-! placesP -/
/-! a world's places -/
theorem at_getDi {js : List Int} {i : Int} {j : Nat} (e : i = (j : Int)) (h : j < js.length) : atI (js.map V.int) i = some (.int (js.getD j 0)) := by
  subst e; exact at_getD j h
theorem getD_drop {rs : List Int} {a i : Nat} : (rs.drop a).getD i 0 = rs.getD (a + i) 0 := by
  rw [List.getD_eq_getElem?_getD, List.getElem?_drop, List.getD_eq_getElem?_getD]
theorem getD_takeL {rs : List Int} {a i : Nat} (h : i < a) : (rs.take a).getD i 0 = rs.getD i 0 := by
  rw [List.getD_eq_getElem?_getD, List.getElem?_take, if_pos h, List.getD_eq_getElem?_getD]
theorem heldO_by {rs ls : List Int} {p : Pl} (e1 : ¬ p.w = ("entry" : Str)) (hL : listN rs p.w = ls) : heldO rs p = if 0 ≤ p.i ∧ p.i < (ls.length : Int) then some (ls.getD p.i.toNat 0) else none := by
  have hP : hasPl rs p = decide (0 ≤ p.i ∧ p.i < (ls.length : Int)) := by unfold hasPl; rw [if_neg e1, hL]
  unfold heldO
  rw [hP, hL]
  by_cases h : 0 ≤ p.i ∧ p.i < (ls.length : Int)
  · rw [if_pos h, if_neg]
    rintro (z | z)
    · exact e1 z
    · exact of_decide_eq_false z h
  · rw [if_neg h, if_pos (.inr (decide_eq_false h))]
theorem heldO_cite {rs : List Int} {p : Pl} (th : isThing rs = true) (ro : RowOk rs) (hw : p.w = ("cite" : Str)) : heldO rs p = if rs.getD 0 0 = 2 ∧ 0 ≤ p.i ∧ p.i < rs.getD 1 0 then some (rs.getD (2 + p.i.toNat) 0) else none := by
  have e1 : ¬ p.w = ("entry" : Str) := by rw [hw]; decide +kernel
  have e2 : ¬ ("cite" : Str) = ("back" : Str) := by decide +kernel
  have r1 := ro.one
  by_cases h2 : rs.getD 0 0 = 2
  · obtain ⟨l2, l3⟩ := isThing_doc th h2
    have hL : listN rs p.w = (rs.drop 2).take (rs.getD 1 0).toNat := by unfold listN; rw [if_pos ⟨hw, h2⟩]
    have ll : ((rs.drop 2).take (rs.getD 1 0).toNat).length = (rs.getD 1 0).toNat := by rw [List.length_take, List.length_drop]; omega
    rw [heldO_by e1 hL, ll]
    by_cases h3 : 0 ≤ p.i ∧ p.i < rs.getD 1 0
    · rw [if_pos ⟨h3.1, by omega⟩, if_pos ⟨h2, h3⟩, getD_takeL (by omega), getD_drop]
    · rw [if_neg (fun z => h3 ⟨z.1, by omega⟩), if_neg (fun z => h3 z.2)]
  · have hL : listN rs p.w = [] := by unfold listN; rw [if_neg (fun z => h2 z.2), if_neg (fun z => e2 (hw.symm.trans z.1))]
    rw [heldO_by e1 hL, if_neg (fun z => by have := z.2; simp at this; omega), if_neg (fun z => h2 z.1)]
theorem heldO_back {rs : List Int} {p : Pl} (th : isThing rs = true) (hw : p.w = ("back" : Str)) : heldO rs p = if rs.getD 0 0 = 4 ∧ 0 ≤ p.i ∧ p.i < (rs.length : Int) - 6 then some (rs.getD (6 + p.i.toNat) 0) else none := by
  have e1 : ¬ p.w = ("entry" : Str) := by rw [hw]; decide +kernel
  have e2 : ¬ p.w = ("cite" : Str) := by rw [hw]; decide +kernel
  by_cases h4 : rs.getD 0 0 = 4
  · obtain ⟨l6, _⟩ := isThing_hd th h4
    have hL : listN rs p.w = rs.drop 6 := by unfold listN; rw [if_neg (fun z => e2 z.1), if_pos ⟨hw, h4⟩]
    rw [heldO_by e1 hL, List.length_drop]
    by_cases h3 : 0 ≤ p.i ∧ p.i < (rs.length : Int) - 6
    · rw [if_pos ⟨h3.1, by omega⟩, if_pos ⟨h4, h3⟩, getD_drop]
    · rw [if_neg (fun z => h3 ⟨z.1, by omega⟩), if_neg (fun z => h3 z.2)]
  · have hL : listN rs p.w = [] := by unfold listN; rw [if_neg (fun z => e2 z.1), if_neg (fun z => h4 z.2)]
    rw [heldO_by e1 hL, if_neg (fun z => by have := z.2; simp at this; omega), if_neg (fun z => h4 z.1)]
def plpD (x : Pl × Int) : PyData := .tuple [plD x.1, .int x.2]
theorem noL_pl (p : Pl) : noL (plD p) = true := by
  unfold plD
  by_cases e : p.w = ("entry" : Str)
  · rw [if_pos e]; simp [noL, noLs, noLs_ints]
  · rw [if_neg e]; simp [noL, noLs]
theorem noLs_plp : ∀ xs : List (Pl × Int), noLs (xs.map plpD) = true
  | [] => rfl
  | x :: r => by simp [noLs, noL, plpD, noL_pl, noLs_plp r]
def citesN (row : List Int) : List (Pl × Int) := (List.range (row.getD 1 0).toNat).map fun (k : Nat) => (⟨"cite", (k : Int), []⟩, row.getD (2 + k) 0)
def backsN (row : List Int) : List (Pl × Int) := (List.range (row.length - 6)).map fun (k : Nat) => (⟨"back", (k : Int), []⟩, row.getD (6 + k) 0)
def entsN (n f : Int) (es : List Int) : List (Pl × Int) := (List.range es.length).map fun (k : Nat) => (⟨"entry", (k : Int), wy n f es k⟩, es.getD k 0)
def placesN (n f : Int) (row es : List Int) : List (Pl × Int) := if row.getD 0 0 = 2 then citesN row else if row.getD 0 0 = 4 then backsN row ++ entsN n f es else []
theorem plD_two {w : Str} {i : Int} {x : List Int} (h : ¬ w = ("entry" : Str)) : plD ⟨w, i, x⟩ = .tuple [.str w, .int i] := by
  unfold plD; rw [if_neg h]
theorem plD_three {i : Int} {x : List Int} : plD ⟨"entry", i, x⟩ = .tuple [.str "entry", .int i, .tuple (x.map PyData.int)] := by
  unfold plD; rw [if_pos rfl]
/-! knP -/
/-! what is known: the digest, the thing's place, its row's place, the thing -/
abbrev KN := Int × Addr × Addr × (List Int × List Int)
def seenK (ws : List KN) : List (Key × V) := ws.map fun w => (.inl w.1, .ref w.2.1)
def ksOf (ws : List KN) : List (Int × Addr × List Int) := ws.map fun w => (w.1, w.2.2.1, w.2.2.2.1)
def lkW : List KN → Int → Option KN
  | [], _ => none
  | w :: r, x => if w.1 = x then some w else lkW r x
theorem valV_seenK (x : Int) : ∀ ws : List KN, valV (seenK ws) (.inl x) = (lkW ws x).map fun w => V.ref w.2.1
  | [] => rfl
  | w :: r => by
    rw [lkW]
    show valV ((Sum.inl w.1, V.ref w.2.1) :: seenK r) (.inl x) = _
    by_cases e : w.1 = x
    · rw [if_pos e, valV_pos (by rw [e])]; rfl
    · rw [if_neg e, valV_neg (fun z => e (Sum.inl.inj z)), valV_seenK x r]
theorem lkA_ksOf (x : Int) : ∀ ws : List KN, lkA (ksOf ws) x = (lkW ws x).map fun w => (w.2.2.1, w.2.2.2.1)
  | [] => rfl
  | w :: r => by
    rw [lkW]
    show lkA ((w.1, w.2.2.1, w.2.2.2.1) :: ksOf r) x = _
    rw [lkA]
    by_cases e : w.1 = x
    · rw [if_pos e, if_pos e]; rfl
    · rw [if_neg e, if_neg e, lkA_ksOf x r]
theorem lkW_mem : ∀ {ws : List KN} {x : Int} {w : KN}, lkW ws x = some w → w ∈ ws ∧ w.1 = x
  | [], x, w, h => nomatch h
  | v :: r, x, w, h => by
    rw [lkW] at h
    by_cases e : v.1 = x
    · rw [if_pos e] at h
      have := Option.some.inj h
      rw [← this]; exact ⟨List.mem_cons_self, e⟩
    · rw [if_neg e] at h
      have := lkW_mem h
      exact ⟨List.mem_cons_of_mem _ this.1, this.2⟩
def KnAt (K : PySem.W.Frag) (H : Hp) (n f : Int) (w : KN) : Prop := ∃ e : Addr, H w.2.1 = some (.lst [.ref w.2.2.1, .ref e]) ∧ SqT K H w.2.2.1 (w.2.2.2.1.map V.int) ∧ H e = some (.lst (w.2.2.2.2.map V.int)) ∧ Th n f w.2.2.2.1 w.2.2.2.2
theorem KnAt.kp {K : PySem.W.Frag} {H H' : Hp} {n f : Int} {w : KN} (h : KnAt K H n f w) (k : Kp [] H H') : KnAt K H' n f w := by
  obtain ⟨e, h1, h2, h3, h4⟩ := h
  exact ⟨e, k.at0 h1, k.tup h2, k.at0 h3, h4⟩
/-! lib_g2 -/
/-! a library beside a list that is written -/
theorem LibAt.set {K : PySem.W.Frag} {CL CM : Addr} {H H' : Hp} {a dx mx dR dE l : Addr} {xs : List V} {n f : Int} {ks qs : List (Int × Addr × List Int)} (h : LibAt K CL CM H a dx mx dR dE n f ks qs) (hl : H l = some (.lst xs)) (k : Kp [l] H H') (nq : ∀ k ∈ qs, k.2.1 ≠ l) : LibAt K CL CM H' a dx mx dR dE n f ks qs := by
  obtain ⟨dm, hm⟩ := h.hx
  exact ⟨k.at1 (ne_of h.ha hl (by intro z; cases z)) h.ha, ⟨dm, k.at1 (ne_of hm hl (by intro z; cases z)) hm⟩, k.at1 (ne_of h.hR hl (by intro z; cases z)) h.hR, k.at1 (ne_of h.hE hl (by intro z; cases z)) h.hE, h.ne, fun z m => k.tup (h.rows z m), fun z m => k.at1 (nq z m) (h.ents z m), h.both, h.only⟩
/-- a library beside another dict -/
theorem LibAt.dict {K : PySem.W.Frag} {CL CM : Addr} {H H' : Hp} {a dx mx dR dE l : Addr} {kvs : List (Key × V)} {n f : Int} {ks qs : List (Int × Addr × List Int)} (h : LibAt K CL CM H a dx mx dR dE n f ks qs) (hl : H l = some (.dK kvs)) (k : Kp [l] H H') (nR : dR ≠ l) (nE : dE ≠ l) : LibAt K CL CM H' a dx mx dR dE n f ks qs := by
  obtain ⟨dm, hm⟩ := h.hx
  exact ⟨k.at1 (ne_of h.ha hl (by intro z; cases z)) h.ha, ⟨dm, k.at1 (ne_of hm hl (by intro z; cases z)) hm⟩, k.at1 nR h.hR, k.at1 nE h.hE, h.ne, fun z m => k.tup (h.rows z m), fun z m => k.at1 (ne_of (h.ents z m) hl (by intro z; cases z)) (h.ents z m), h.both, h.only⟩
/-- a new library -/
theorem LibAt.new {K : PySem.W.Frag} {CL CM : Addr} {H : Hp} {a dx mx dR dE : Addr} {n f : Int} (ha : H a = some (.ins CL dx (libF mx dR dE))) (hx : Mx CM H mx n f) (hR : H dR = some (.dK [])) (hE : H dE = some (.dK [])) (ne : dR ≠ dE) : LibAt K CL CM H a dx mx dR dE n f [] [] :=
  ⟨ha, hx, hR, hE, ne, (fun z m => nomatch m), (fun z m => nomatch m), (fun x z h => nomatch h), (fun x _ => rfl)⟩
/-- lists that stay when dicts are written -/
theorem Kp.lists {A : List Addr} {H H' : Hp} {p : Addr} {xs : List V} (k : Kp A H H') (hA : ∀ l ∈ A, ∃ kvs, H l = some (.dK kvs)) (h : H p = some (.lst xs)) : H' p = some (.lst xs) := k.at (fun m => by
  obtain ⟨kvs, e⟩ := hA p m
  rw [h] at e; cases e) h
theorem ThAt.dicts {K : PySem.W.Frag} {A : List Addr} {H H' : Hp} {n f : Int} {p : Addr} {t : List Int × List Int} (h : ThAt K H n f p t) (k : Kp A H H') (hA : ∀ l ∈ A, ∃ kvs, H l = some (.dK kvs)) : ThAt K H' n f p t := by
  obtain ⟨a, e, h1, h2, h3, h4⟩ := h
  exact ⟨a, e, Kp.lists k hA h1, (by first | exact k.tup h2 | exact k.t _ _ h2), Kp.lists k hA h3, h4⟩
theorem ThsAt.dicts {K : PySem.W.Frag} {A : List Addr} {H H' : Hp} {n f : Int} {ps : List Addr} {ts : List (List Int × List Int)} (h : ThsAt K H n f ps ts) (k : Kp A H H') (hA : ∀ l ∈ A, ∃ kvs, H l = some (.dK kvs)) : ThsAt K H' n f ps ts := ⟨h.1, fun i p t a c => (h.2 i p t a c).dicts k hA⟩
theorem KnAt.dicts {K : PySem.W.Frag} {A : List Addr} {H H' : Hp} {n f : Int} {w : KN} (h : KnAt K H n f w) (k : Kp A H H') (hA : ∀ l ∈ A, ∃ kvs, H l = some (.dK kvs)) : KnAt K H' n f w := by
  obtain ⟨e, h1, h2, h3, h4⟩ := h
  exact ⟨e, Kp.lists k hA h1, k.tup h2, Kp.lists k hA h3, h4⟩
/-- rows that are told, as data -/
theorem dp_rows {K : PySem.W.Frag} {H : Hp} {n f : Int} : ∀ {ws : List KN}, (∀ w ∈ ws, KnAt K H n f w) → DpAll K H (ws.map fun w => V.ref w.2.2.1) (ws.map fun w => PyData.tuple (w.2.2.2.1.map PyData.int))
  | [], _ => .nil
  | w :: r, h => by
    obtain ⟨e, h1, h2, h3, h4⟩ := h w List.mem_cons_self
    exact .cons (dp_T h2) (dp_rows fun v m => h v (List.mem_cons_of_mem _ m))
theorem ksOf_refs (ws : List KN) : ((ksOf ws).map fun k => V.ref k.2.1) = ws.map fun w => V.ref w.2.2.1 := by unfold ksOf; rw [List.map_map]; rfl
theorem ksOf_app (ws : List KN) (w : KN) : ksOf (ws ++ [w]) = ksOf ws ++ [(w.1, w.2.2.1, w.2.2.2.1)] := by unfold ksOf; rw [List.map_append]; rfl
theorem seenK_app (ws : List KN) (w : KN) : seenK (ws ++ [w]) = seenK ws ++ [(.inl w.1, .ref w.2.1)] := by unfold seenK; rw [List.map_append]; rfl
theorem lkW_app {ws : List KN} {w : KN} {x : Int} (h : lkW ws w.1 = none) : lkW (ws ++ [w]) x = if w.1 = x then some w else lkW ws x := by
  induction ws with
  | nil => simp [lkW]
  | cons v ws ih =>
    rw [lkW] at h
    rw [List.cons_append, lkW, lkW]
    by_cases e : v.1 = w.1
    · rw [if_pos e] at h; cases h
    · rw [if_neg e] at h
      rw [ih h]
      by_cases e2 : v.1 = x
      · rw [if_pos e2, if_pos e2, if_neg (fun z => e (e2.trans z.symm))]
      · rw [if_neg e2, if_neg e2]
/-! kn29P -/
section
local macro_rules | `(tactic| wtm_at "d") => `(tactic| first | ((with_reducible show Z.XE _ (PySem.Expr.Call (PySem.Expr.Name "_law_digest" _) (_ :: _) [] _) _ _ _); refine Z.xe_call (by assumption) (Law.ok__law_digest T) (by wtm_at "m") (by omega) ?_) | fail)
/-! what is known: a list of things, and a dict of them by their digests -/
structure KnL (K : PySem.W.Frag) (H : Hp) (n f : Int) (p kp sp : Addr) (ws : List KN) : Prop where
  hp : H p = some (.lst [.ref kp, .ref sp])
  hk : H kp = some (.lst ((ws.map fun w => w.2.1).map V.ref))
  hs : H sp = some (.dK (seenK ws))
  at_ : ∀ w ∈ ws, KnAt K H n f w
  dg : ∀ w ∈ ws, w.1 = dig n f w.2.2.2.1
  nd : (ws.map fun w => w.1).Nodup
  len : ws.length ≤ 100
section
variable {K : PySem.W.Frag} {H H' : Hp} {n f : Int} {p kp sp b r : Addr} {ws : List KN}
theorem KnAt.kpN {A : List Addr} {w : KN} (h : KnAt K H n f w) (k : Kp A H H') (nn : ∀ l ∈ A, H l = none) : KnAt K H' n f w := by
  obtain ⟨e, h1, h2, h3, h4⟩ := h
  exact ⟨e, k.atN nn h1, k.tup h2, k.atN nn h3, h4⟩
theorem KnAt.draw {w : KN} (h : KnAt K H n f w) (bx : Box H b r) (k : Kp [b] H H') : KnAt K H' n f w := by
  obtain ⟨e, h1, h2, h3, h4⟩ := h
  exact ⟨e, k.at1 (bx.neRefs (as := [w.2.2.1, e]) h1) h1, k.tup h2, k.at1 (bx.neInts h3) h3, h4⟩
instance : Car H H' (KnL K H n f p kp sp ws) (KnL K H' n f p kp sp ws) := ⟨fun k nn h => ⟨k.atN nn h.hp, k.atN nn h.hk, k.atN nn h.hs, fun w m => (h.at_ w m).kpN k nn, h.dg, h.nd, h.len⟩⟩
instance : CarB b r H H' (KnL K H n f p kp sp ws) (KnL K H' n f p kp sp ws) := ⟨fun bx k h => ⟨k.at1 (bx.neRefs (as := [kp, sp]) h.hp) h.hp, k.at1 (bx.neRefs h.hk) h.hk, bx.other k (fun _ e => nomatch e) h.hs, fun w m => (h.at_ w m).draw bx k, h.dg, h.nd, h.len⟩⟩
end
theorem lkW_none : ∀ {ws : List KN} {x : Int}, lkW ws x = none → ∀ w ∈ ws, w.1 ≠ x
  | [], _, _, w, m => nomatch m
  | v :: r, x, h, w, m => by
    rw [lkW] at h
    by_cases e : v.1 = x
    · rw [if_pos e] at h; cases h
    · rw [if_neg e] at h
      rcases List.mem_cons.mp m with z | z
      · rw [z]; exact e
      · exact lkW_none h w z
theorem lkW_not : ∀ {ws : List KN} {x : Int}, (∀ w ∈ ws, w.1 ≠ x) → lkW ws x = none
  | [], _, _ => rfl
  | v :: r, x, h => by rw [lkW, if_neg (h v List.mem_cons_self), lkW_not fun w m => h w (List.mem_cons_of_mem _ m)]
theorem lkW_nd : ∀ {ws : List KN}, (ws.map fun w => w.1).Nodup → ∀ w ∈ ws, lkW ws w.1 = some w
  | [], _, w, m => nomatch m
  | v :: r, nd, w, m => by
    rw [List.map_cons, List.nodup_cons] at nd
    rw [lkW]
    rcases List.mem_cons.mp m with z | z
    · rw [z, if_pos rfl]
    · rw [if_neg (fun e => nd.1 (by rw [e]; exact List.mem_map_of_mem (f := fun w : KN => w.1) z)), lkW_nd nd.2 w z]
/-- ahead of the i-th none has its digest -/
theorem lkW_take {ws : List KN} {i : Nat} {w : KN} (nd : (ws.map fun w => w.1).Nodup) (h : ws[i]? = some w) : lkW (ws.take i) w.1 = none := by
  refine lkW_not fun v m e => ?_
  have hi := (List.getElem?_eq_some_iff.mp h).1
  have e2 : ws = ws.take i ++ w :: ws.drop (i + 1) := by
    have := List.getElem?_eq_some_iff.mp h
    obtain ⟨h1, h2⟩ := this
    rw [← h2, List.getElem_cons_drop, List.take_append_drop]
  rw [e2, List.map_append, List.nodup_append] at nd
  exact nd.2.2 v.1 (List.mem_map_of_mem (f := fun w : KN => w.1) m) w.1 (by simp) e
theorem Th.ok {n f : Int} {row es : List Int} (h : Th n f row es) : RowOk row := by
  refine ⟨by have := h.len; omega, ?_, fun e => ?_⟩
  · cases h with
    | beacon h v h0 => exact h0
    | doc cs bs => show 0 ≤ (cs.length : Int); omega
    | renew d d0 => exact d0
    | head s k h es bs s0 => exact s0
  · cases h with
    | beacon h v h0 => exact absurd e (by show ¬ (1 : Int) = 4; decide)
    | doc cs bs => exact absurd e (by show ¬ (2 : Int) = 4; decide)
    | renew d d0 => exact absurd e (by show ¬ (5 : Int) = 4; decide)
    | head s k h es bs s0 s1 k0 k1 h0 e1 e5 => show (es.length : Int) ≤ 2 ^ 68; omega
theorem Th.pos0 {n f : Int} {row es : List Int} (h : Th n f row es) : 0 < row.length := isThing_pos h.thing
/-- the rows are plain tuples -/
def TupK (H : Hp) (ws : List KN) : Prop := ∀ w ∈ ws, H w.2.2.1 = some (.tup (w.2.2.2.1.map V.int))
theorem TupK.kp {A : List Addr} {H H' : Hp} {ws : List KN} (h : TupK H ws) (k : Kp A H H') : TupK H' ws := fun w m => k.t _ _ (h w m)
def sp_lknown (K : PySem.W.Frag) : Sp := fun vs H Q _ => ∃ (m M : Addr) (n f : Int) (ps : List Addr) (ts : List (List Int × List Int)), vs = [.ref m, .ref M] ∧ H m = some (.lst ([n, f].map V.int)) ∧ 0 < n ∧ H M = some (.lst (ps.map V.ref)) ∧ ThsAt K H n f ps ts ∧ ps.length ≤ 60 ∧
  ∀ (p kp sp : Addr) (ws : List KN) H', Kp [] H H' → H p = none → H kp = none → H sp = none → KnL K H' n f p kp sp ws → TupK H' ws → (0 < ps.length → 0 < ws.length) → ws.length ≤ ps.length → Q (.ref p) H'
theorem ok__law_known (T : Txt P w K mg base) : DefOk P w K mg base "_law_known" ["mix", "things"] 2 (sp_lknown K) := by
  refine DefOk.by T.d__law_known sc__law_known oc__law_known (fun vs H Q E h => ?_) (fun X e1 e2 e3 e4 e5 C H vs Q E h => ?_)
  · obtain ⟨m, M, n, f, ps, ts, rfl, _⟩ := h; rfl
  · obtain ⟨m, M, n, f, ps, ts, rfl, hm, hn, hM, hT, lp, q⟩ := h
    wtm_at "go"
    wtm_at "w"
    intro L H1 k1 nL hL
    wtm_at "w"
    refine xe_dnewK (fun S H2 k2 nS hS => ?_)
    have nS0 : H S = none := k1.n _ nS
    have ne : L ≠ S := ne_of_none hL nS
    have hid : Kp [] H H2 := k1.tr0 k2
    have hL2 := k2.at0 hL
    clear k1 k2 hL
    wtm_at "w"
    refine xs_forL (by assumption) ?_
    wtm_at "w"
    refine ⟨M, _, rfl, Z.SqL.of' (hid.at0 hM), fun i σ H' => ∃ (ws : List KN) (v1 v2 : Option V), σ = [some (.ref m), some (.ref M), some (.ref L), some (.ref S), v1, v2] ∧ Kp [] H H' ∧ H' L = some (.lst ((ws.map fun w => w.2.1).map V.ref)) ∧ H' S = some (.dK (seenK ws)) ∧ (∀ w ∈ ws, KnAt X.K H n f w) ∧ TupK H ws ∧ (∀ w ∈ ws, w.1 = dig n f w.2.2.2.1) ∧ (ws.map fun w => w.1).Nodup ∧ ws.length ≤ i ∧ (0 < i → 0 < ws.length), ⟨[], _, _, rfl, hid, hL2, hS, fun _ m => (nomatch m), fun _ m => (nomatch m), fun _ m => (nomatch m), .nil, by decide, fun z => absurd z (by omega)⟩, ?_, ?_, ?_⟩
    · rintro i σ' H' _ ⟨ws, v1, v2, rfl, k, _⟩
      exact Z.SqL.of' (k.at0 hM)
    · rintro i y σ' H3 hy ⟨ws, v1, v2, rfl, k3, h3, s3, a3, tk3, dg3, nd3, l3, p3⟩
      have hi : i < ps.length := by
        have := (List.getElem?_eq_some_iff.mp hy).1
        rwa [List.length_map] at this
      obtain ⟨p, t, rfl, hp, ht, a, e, g1, g2, g3, th⟩ := hT.at hy
      have g1' := k3.at0 g1
      have g2' := Z.SqT.of' (K := X.K) (k3.t _ _ g2)
      have g3' := k3.at0 g3
      have m3 := k3.at0 hm
      wtm_at "w"
      refine ⟨m, a, n, f, t.1, rfl, Z.SqL.of' m3, g2', hn, ?_⟩
      wtm_at "w"
      refine vo_notInD C (.inl ⟨_, .inl (dig n f t.1), .inl s3, rfl, rfl⟩) ?_
      rw [valV_seenK]
      cases hk : lkW ws (dig n f t.1) with
      | none =>
        wtm_at "w"
        refine L2.iteT ?_
        refine xb_cons ?_
        refine xs_dput (by assumption) ?_
        wtm_at "w"
        refine ⟨S, seenK ws, .inl (dig n f t.1), rfl, rfl, s3, szl (by unfold seenK; rw [List.length_map]; omega), fun H4 k4 s4 => ?_⟩
        have vn : valV (seenK ws) (.inl (dig n f t.1)) = none := by rw [valV_seenK, hk]; rfl
        rw [putK_new _ vn] at s4
        have h4 := k4.at1 ne h3
        wtm_at "w"
        refine ⟨h4, szl (by rw [List.length_map, List.length_map]; omega), fun H5 k5 h5 => ?_⟩
        wtm_at "w"
        have k34 : Kp [S, L] H3 H5 := (k4.wk (B := [S, L]) (fun l m => by simp at m; simp [m])).tr1 k5 (.inl (by simp))
        have k05 : Kp [] H H5 := k3.tr k34 fun l m => by
          simp only [List.mem_cons, List.not_mem_nil, or_false] at m
          rcases m with rfl | rfl
          · exact .inr nS0
          · exact .inr nL
        have nw : KnAt X.K H n f (dig n f t.1, p, a, t) := ⟨e, g1, Z.SqT.of' g2, g3, th⟩
        refine ⟨ws ++ [(dig n f t.1, p, a, t)], _, _, rfl, k05, ?_, ?_, ?_, ?_, ?_, ?_, ?_, ?_⟩
        · rw [h5, List.map_append, List.map_append]; rfl
        · rw [k5.at1 (Ne.symm ne) s4]; unfold seenK; rw [List.map_append]; rfl
        · intro w mw
          rcases List.mem_append.mp mw with z | z
          · exact a3 w z
          · rw [List.mem_singleton.mp z]; exact nw
        · intro w mw
          rcases List.mem_append.mp mw with z | z
          · exact tk3 w z
          · rw [List.mem_singleton.mp z]; exact g2
        · intro w mw
          rcases List.mem_append.mp mw with z | z
          · exact dg3 w z
          · rw [List.mem_singleton.mp z]
        · rw [List.map_append, List.nodup_append]
          refine ⟨nd3, by simp, fun x hx y hy => ?_⟩
          obtain ⟨w, hw, rfl⟩ := List.mem_map.mp hx
          have ey : y = dig n f t.1 := by simpa using hy
          rw [ey]; exact lkW_none hk w hw
        · simp; omega
        · intro _; simp
      | some w0 =>
        wtm_at "w"
        refine L2.iteF ?_
        wtm_at "w"
        refine ⟨ws, _, _, rfl, k3, h3, s3, a3, tk3, dg3, nd3, by omega, fun _ => List.length_pos_of_mem (lkW_mem hk).1⟩
    · rintro σ' H3 ⟨ws, v1, v2, rfl, k3, h3, s3, a3, tk3, dg3, nd3, l3, p3⟩
      rw [List.length_map] at l3 p3
      wtm_at "w"
      intro p H4 k4 np h4
      have k04 := k3.tr0 k4
      exact q p L S ws H4 k04 (k3.n _ np) nL nS0 ⟨h4, k4.at0 h3, k4.at0 s3, fun w m => (a3 w m).kp k04, dg3, nd3, by omega⟩ (TupK.kp tk3 k04) p3 l3
end
/-! _law_way_u -/
section
local macro_rules | `(tactic| wtm_at "d") => `(tactic| first | ((with_reducible show Z.XE _ (PySem.Expr.Call (PySem.Expr.Name "len" _) (_ :: _) [] _) _ _ _); refine Z.xe_callB (id := "len") (by assumption) (by wtm_at "m") T.b_len (by decide +kernel) ?_) | ((with_reducible show Z.XE _ (PySem.Expr.Call (PySem.Expr.Name "list" _) (_ :: _) [] _) _ _ _); refine Z.xe_callTy (id := "list") (by assumption) (by wtm_at "m") T.b_list (by decide +kernel) ?_) | ((with_reducible show Z.XE _ (PySem.Expr.Name "list" _) _ _ _); refine Z.xe_ty (id := "list") (by assumption) (by wtm_at "m") T.b_list (by decide +kernel) ?_) | ((with_reducible show Z.XE _ (PySem.Expr.Call (PySem.Expr.Name "tuple" _) (_ :: _) [] _) _ _ _); refine Z.xe_callTy (id := "tuple") (by assumption) (by wtm_at "m") T.b_tuple (by decide +kernel) ?_) | ((with_reducible show Z.XE _ (PySem.Expr.Name "tuple" _) _ _ _); refine Z.xe_ty (id := "tuple") (by assumption) (by wtm_at "m") T.b_tuple (by decide +kernel) ?_) | ((with_reducible show Z.XE _ (PySem.Expr.Call (PySem.Expr.Name "_law_half" _) (_ :: _) [] _) _ _ _); refine Z.xe_call (by assumption) (Law.ok__law_half T) (by wtm_at "m") (by omega) ?_) | ((with_reducible show Z.XE _ (PySem.Expr.Call (PySem.Expr.Name "_law_root" _) (_ :: _) [] _) _ _ _); refine Z.xe_call (by assumption) (Law.ok__law_root T) (by wtm_at "m") (by omega) ?_) | fail)
def sp_lway (K : PySem.W.Frag) : Sp := fun vs H Q _ => ∃ (m e : Addr) (b f : Int) (es : List Int) (i : Nat), vs = [.ref m, .ref e, .int i] ∧ SqL K H m [.int b, .int f] ∧ SqL K H e (es.map V.int) ∧ i < es.length ∧ es.length ≤ 512 ∧ 0 < b ∧ ∀ t H', Kp [] H H' → SqT K H' t ((wy b f es i).map V.int) → Q (.ref t) H'
theorem ok__law_way (T : Txt P w K mg base) : DefOk P w K mg base "_law_way" ["mix", "entries", "index"] 12 (sp_lway K) := by
  refine DefOk.by T.d__law_way sc__law_way oc__law_way (fun vs H Q E h => ?_) (fun X e1 e2 e3 e4 e5 C H vs Q E h => ?_)
  · obtain ⟨p, e, b, f, es, i, rfl, _⟩ := h; rfl
  · obtain ⟨p, e, b, f, es, i, rfl, hm, he, il, ld, hb, q⟩ := h
    have tl := tn_len 9 es.length i ld
    have wl := wy_len b f 600 es i (by omega)
    wtm_at "go"
    wtm_at "w"
    intro L H1 k1 nL hL
    wtm_at "w"
    refine vc_listL (k1.lst0 he) (fun M H2 k2 nM hM => ?_)
    have hid : Fr [] H H2 := k1.tr0 k2
    have hL2 := k2.at0 hL
    have nL2 : H L = none := nL
    have nM2 : H M = none := k1.n _ nM
    have ne : L ≠ M := ne_of_none hL nM
    clear k1 k2 hL
    wtm_at "w"
    refine xs_forR1 (by assumption) (by wtm_at "m") T.b_range ?_
    wtm_at "w"
    refine vc_lenL (hid.k.lst0 he) ?_
    rw [List.length_map]
    wtm_at "w"
    refine ⟨_, rfl, by omega, by omega, fun t σ H' => ∃ (pr : Addr) (ps ws : List Int) (j : Nat) (v1 v2 : Option V), σ = [some (.ref p), some (.ref e), some (.int j), some (.ref L), some (.ref pr), v1, v2] ∧ Kp [] H H' ∧ H' L = some (.lst (ws.map V.int)) ∧ SqL X.K H' pr (ps.map V.int) ∧ pr ≠ L ∧
      j < ps.length ∧ ps.length ≤ 512 ∧ (ps.length + t ≤ es.length ∨ ps.length = 1) ∧ wy b f es i = wy b f ps j ++ ws.reverse, ⟨M, es, [], i, _, _, rfl, hid.k, hL2, Z.SqL.of' hM, Ne.symm ne, by omega, ld, .inl (by omega), by simp⟩, ?_, ?_⟩
    · rintro t σ' H2 ht ⟨pr, ps, ws, j, v1, v2, rfl, k2, hL, hp, neL, jl, p512, pl, ew⟩
      have lw : ws.length ≤ 9 := by
        have := congrArg List.length ew
        rw [List.length_append, List.length_reverse] at this; omega
      wtm_at "w"
      rw [List.length_map]
      refine ite_d (fun h => ?_) (fun h => ?_)
      · have s2 : 2 ≤ ps.length := by omega
        have lt := hf_lt s2
        have lp := hf_pos ps.length
        wtm_at "w"
        refine ⟨ps.length, by rw [List.length_map], s2, by omega, ?_⟩
        wtm_at "w"
        refine ite_d (fun hj => ?_) (fun hj => ?_)
        · have hj' : ¬ j < hf ps.length := by omega
          wtm_at "w"
          refine vsl_lst hp (fun c2 H6 k6 n6 g6 => ?_)
          rw [cut_take _ _ (by rw [List.length_map]; omega), ← List.map_take] at g6
          wtm_at "w"
          refine ⟨p, c2, b, f, _, rfl, k6.lst0 (k2.lst0 hm), Z.SqL.of' g6, by rw [len_take s2]; omega, by rw [len_take s2]; omega, hb, fun H7 k7 => ?_⟩
          refine ⟨k7.at0 (k6.at0 hL), szl (by rw [List.length_map]; omega), fun H8 k8 h8 => ?_⟩
          wtm_at "w"
          have hp8 : SqL X.K H8 pr (ps.map V.int) := k8.lst1 neL (k7.lst0 (k6.lst0 hp))
          refine vsl_lst hp8 (fun c1 H9 k9 n9 g9 => ?_)
          rw [cut_drop _ _ (by rw [List.length_map]; omega), ← List.map_drop] at g9
          wtm_at "w"
          have e1 : ((j : Int) - (hf ps.length : Int)) = ((j - hf ps.length : Nat) : Int) := by omega
          wtm_at "w"
          rw [e1]
          have k28 : Kp [] H H8 := ((k2.tr0 k6).tr0 k7).tr1 k8 (.inr nL2)
          refine ⟨c1, ps.drop (hf ps.length), ws ++ [rt b f (ps.take (hf ps.length))], j - hf ps.length, _, _, rfl, k28.tr0 k9, by rw [k9.at0 h8, List.map_append]; rfl, Z.SqL.of' g9, (ne_of_none h8 n9).symm, by rw [List.length_drop]; omega, by rw [List.length_drop]; omega, ?_, ?_⟩
          · left; rw [List.length_drop]; omega
          · rw [ew, wy_hi s2 hj']; simp
        · have hj' : j < hf ps.length := by omega
          wtm_at "w"
          refine vsl_lst hp (fun c2 H6 k6 n6 g6 => ?_)
          rw [cut_drop _ _ (by rw [List.length_map]; omega), ← List.map_drop] at g6
          wtm_at "w"
          refine ⟨p, c2, b, f, _, rfl, k6.lst0 (k2.lst0 hm), Z.SqL.of' g6, by rw [List.length_drop]; omega, by rw [List.length_drop]; omega, hb, fun H7 k7 => ?_⟩
          refine ⟨k7.at0 (k6.at0 hL), szl (by rw [List.length_map]; omega), fun H8 k8 h8 => ?_⟩
          wtm_at "w"
          have hp8 : SqL X.K H8 pr (ps.map V.int) := k8.lst1 neL (k7.lst0 (k6.lst0 hp))
          refine vsl_lst hp8 (fun c1 H9 k9 n9 g9 => ?_)
          rw [cut_take _ _ (by rw [List.length_map]; omega), ← List.map_take] at g9
          wtm_at "w"
          have k28 : Kp [] H H8 := ((k2.tr0 k6).tr0 k7).tr1 k8 (.inr nL2)
          refine ⟨c1, ps.take (hf ps.length), ws ++ [rt b f (ps.drop (hf ps.length))], j, _, _, rfl, k28.tr0 k9, by rw [k9.at0 h8, List.map_append]; rfl, Z.SqL.of' g9, (ne_of_none h8 n9).symm, by rw [len_take s2]; exact hj', by rw [len_take s2]; omega, ?_, ?_⟩
          · left; rw [len_take s2]; omega
          · rw [ew, wy_lo s2 hj']; simp
      · wtm_at "w"
        exact ⟨pr, ps, ws, j, _, _, rfl, k2, hL, hp, neL, jl, p512, .inr (by omega), ew⟩
    · rintro σ' H2 ⟨pr, ps, ws, j, v1, v2, rfl, k2, hL, hp, neL, jl, p512, pl, ew⟩
      have p1 : ps.length = 1 := by
        rcases pl with h | h
        · have : ((es.length : Nat) : Int).toNat = es.length := by simp
          omega
        · exact h
      have e0 : wy b f es i = ws.reverse := by rw [ew, wy_one (by omega)]; rfl
      have lw : ws.length ≤ 9 := by
        have := congrArg List.length e0
        rw [List.length_reverse] at this; omega
      have hk : Fr [] H H2 := k2
      clear k2
      wtm_at "w"
      refine xe_lc C ?_
      refine xlc_R1 (Vs' := ["way", "k"]) (G' := ["len"]) (nm := "k") (i := 6) (by assumption) ⟨rfl, by decide +kernel, by decide +kernel, rfl, by decide +kernel, by decide⟩ (by wtm_at "m") T.b_range ?_
      wtm_at "w"
      rw [List.length_map]
      refine ⟨_, rfl, by omega, by omega, fun L3 H3 k3 nL3 hL3 => ⟨fun t H' => Kp [] H2 H' ∧ H' L3 = some (.lst ((ws.reverse.take t).map V.int)), ⟨k3, hL3⟩, ?_, ?_⟩⟩
      · rintro t H4 ht ⟨k4, h4⟩
        have ht' : t < ws.length := by omega
        refine ⟨_, by wtm_at "u", ?_⟩
        intro s0 H0 c' cl fp C'
        have hL4 := k4.at0 hL
        clear k3
        wtm_at "w"
        rw [List.length_map]
        wtm_at "w"
        refine vx_lst (Z.SqL.of' hL4) (at_getDi (j := ws.length - 1 - t) (by omega) (by omega)) ?_
        refine ⟨_, h4, szl (by rw [List.length_map, List.length_take, List.length_reverse]; omega), fun H5 k5 h5 => ⟨k4.tr1 k5 (.inr nL3), ?_⟩⟩
        rw [h5, List.take_add_one, List.getElem?_reverse ht', List.map_append]
        have : ws[ws.length - 1 - t]? = some (ws.getD (ws.length - 1 - t) 0) := by
          rw [List.getD_eq_getElem?_getD, List.getElem?_eq_getElem (by omega)]; rfl
        rw [this]; rfl
      · rintro H4 ⟨k4, h4⟩
        have e5 : ((ws.length : Nat) : Int).toNat = ws.reverse.length := by simp
        rw [e5, List.take_length] at h4
        wtm_at "w"
        refine vc_tupL (Z.SqL.of' h4) (fun r6 H6 k6 h6 => ?_)
        refine q r6 H6 ((hk.k.tr0 k4).tr0 k6) ?_
        rw [e0]; exact h6
end
/-! _law_filled -/
section
local macro_rules | `(tactic| wtm_at "d") => `(tactic| first | ((with_reducible show Z.XE _ (PySem.Expr.Call (PySem.Expr.Name "list" _) (_ :: _) [] _) _ _ _); refine Z.xe_callTy (id := "list") (by assumption) (by wtm_at "m") T.b_list (by decide +kernel) ?_) | ((with_reducible show Z.XE _ (PySem.Expr.Name "list" _) _ _ _); refine Z.xe_ty (id := "list") (by assumption) (by wtm_at "m") T.b_list (by decide +kernel) ?_) | ((with_reducible show Z.XE _ (PySem.Expr.Call (PySem.Expr.Name "Mixing" _) (_ :: _) [] _) _ _ _); refine Z.xe_make (by assumption) (Law.ok_Mixing T) (by wtm_at "m") (by omega) ?_) | ((with_reducible show Z.XE _ (PySem.Expr.Call (PySem.Expr.Name "Library" _) (_ :: _) [] _) _ _ _); refine Z.xe_make (by assumption) (Law.ok_Library T) (by wtm_at "m") (by omega) ?_) | fail)
/-! a library of what is known -/
theorem esOf_kn {n f : Int} {ws : List KN} {qs : List (Int × Addr × List Int)} {w : KN} (th : Th n f w.2.2.2.1 w.2.2.2.2) (h1 : w.2.2.2.1.getD 0 0 = 4 → ∃ c, lkA qs w.1 = some (c, w.2.2.2.2)) (h2 : ¬ w.2.2.2.1.getD 0 0 = 4 → lkA qs w.1 = none) : esOf qs w.1 = w.2.2.2.2 := by
  unfold esOf
  by_cases h : w.2.2.2.1.getD 0 0 = 4
  · obtain ⟨c, e⟩ := h1 h
    rw [e]
  · rw [h2 h, th.nohd h]
structure QsOk (n f : Int) (ws : List KN) (qs : List (Int × Addr × List Int)) : Prop where
  heads : ∀ w ∈ ws, w.2.2.2.1.getD 0 0 = 4 → ∃ c, lkA qs w.1 = some (c, w.2.2.2.2)
  no : ∀ w ∈ ws, ¬ w.2.2.2.1.getD 0 0 = 4 → lkA qs w.1 = none
theorem rowH_two {n f s k h : Int} {es bs : List Int} : (rowH n f s k h es bs).getD 2 0 = k ∧ (rowH n f s k h es bs).getD 4 0 = (es.length : Int) ∧ (rowH n f s k h es bs).getD 5 0 = rt n f es := ⟨rfl, rfl, rfl⟩
theorem Th.two {n f : Int} {row es : List Int} (h : Th n f row es) (e : row.getD 0 0 = 4) : 0 ≤ row.getD 2 0 ∧ row.getD 2 0 ≤ 64 := by
  cases h with
  | beacon => exact absurd e (by show ¬ (1 : Int) = 4; decide)
  | doc => exact absurd e (by show ¬ (2 : Int) = 4; decide)
  | renew => exact absurd e (by show ¬ (5 : Int) = 4; decide)
  | head s k h es bs s0 s1 k0 k1 => exact ⟨k0, k1⟩
theorem knowOf {n f : Int} {ws : List KN} {qs : List (Int × Addr × List Int)} (ths : ∀ w ∈ ws, Th n f w.2.2.2.1 w.2.2.2.2) (dg : ∀ w ∈ ws, w.1 = dig n f w.2.2.2.1) (nd : (ws.map fun w => w.1).Nodup) (qo : QsOk n f ws qs) (only : ∀ x, lkA (ksOf ws) x = none → lkA qs x = none) : Know n f (ksOf ws) qs := by
  have mm : ∀ k ∈ ksOf ws, ∃ w ∈ ws, k = (w.1, w.2.2.1, w.2.2.2.1) := fun k m => by
    obtain ⟨w, hw, e⟩ := List.mem_map.mp m
    exact ⟨w, hw, e.symm⟩
  refine ⟨fun k m => ?_, fun k m => ?_, fun k m => ?_, fun k m h4 => ?_, fun k m h4 => ?_, only⟩
  · obtain ⟨w, hw, rfl⟩ := mm k m; exact dg w hw
  · obtain ⟨w, hw, rfl⟩ := mm k m
    rw [lkA_ksOf, lkW_nd nd w hw]; rfl
  · obtain ⟨w, hw, rfl⟩ := mm k m
    have th := ths w hw
    exact ⟨th.thing, th.ok, fun e => by have := th.two e; exact ⟨this.1, by have := this.2; show w.2.2.2.1.getD 2 0 < _; omega⟩⟩
  · obtain ⟨w, hw, rfl⟩ := mm k m
    obtain ⟨c, e⟩ := qo.heads w hw h4
    obtain ⟨s, kk, hh, bs, er, l1, l5⟩ := (ths w hw).hd h4
    have r := rowH_two (n := n) (f := f) (s := s) (k := kk) (h := hh) (es := w.2.2.2.2) (bs := bs)
    rw [← er] at r
    exact ⟨c, w.2.2.2.2, e, r.2.1.symm, r.2.2.symm, l1, by omega⟩
  · obtain ⟨w, hw, rfl⟩ := mm k m; exact qo.no w hw h4
theorem QsOk.snoc {n f : Int} {ws : List KN} {qs : List (Int × Addr × List Int)} {w : KN} {c : Addr} (q : QsOk n f ws qs) (h : lkW ws w.1 = none) (hq : lkA qs w.1 = none) : QsOk n f (ws ++ [w]) (if w.2.2.2.1.getD 0 0 = 4 then qs ++ [(w.1, c, w.2.2.2.2)] else qs) := by
  have keep : ∀ v ∈ ws, lkA (if w.2.2.2.1.getD 0 0 = 4 then qs ++ [(w.1, c, w.2.2.2.2)] else qs) v.1 = lkA qs v.1 := fun v m => by
    have ne := lkW_none h v m
    by_cases e : w.2.2.2.1.getD 0 0 = 4
    · rw [if_pos e, lkA_app hq, if_neg (Ne.symm ne)]
    · rw [if_neg e]
  refine ⟨fun v m h4 => ?_, fun v m h4 => ?_⟩
  · rcases List.mem_append.mp m with z | z
    · rw [keep v z]; exact q.heads v z h4
    · rw [List.mem_singleton.mp z] at h4 ⊢
      rw [if_pos h4, lkA_app hq, if_pos rfl]
      exact ⟨c, rfl⟩
  · rcases List.mem_append.mp m with z | z
    · rw [keep v z]; exact q.no v z h4
    · rw [List.mem_singleton.mp z] at h4 ⊢
      rw [if_neg h4]; exact hq
theorem ksOf_len (ws : List KN) : (ksOf ws).length = ws.length := by unfold ksOf; rw [List.length_map]
def sp_lfilled (K : PySem.W.Frag) (CL CM : Addr) : Sp := fun vs H Q _ => ∃ (m p kp sp : Addr) (n f : Int) (ws : List KN), vs = [.ref m, .ref p] ∧ H m = some (.lst ([n, f].map V.int)) ∧ 0 < n ∧ KnL K H n f p kp sp ws ∧
  ∀ (z dx mx dR dE : Addr) (qs : List (Int × Addr × List Int)) H', Kp [] H H' → H z = none → H dR = none → H dE = none → LibAt K CL CM H' z dx mx dR dE n f (ksOf ws) qs → QsOk n f ws qs → (∀ k ∈ qs, H k.2.1 = none) → qs.length ≤ ws.length → Q (.ref z) H'
theorem ok__law_filled (T : Txt P w K mg base) : DefOk P w K mg base "_law_filled" ["mix", "known"] 18 (sp_lfilled K T.C_Library T.C_Mixing) := by
  refine DefOk.by T.d__law_filled sc__law_filled oc__law_filled (fun vs H Q E h => ?_) (fun X e1 e2 e3 e4 e5 C H vs Q E h => ?_)
  · obtain ⟨m, p, kp, sp, n, f, ws, rfl, _⟩ := h; rfl
  · obtain ⟨m, p, kp, sp, n, f, ws, rfl, hm, hn, kn, q⟩ := h
    have hm' : H m = some (.lst [.int n, .int f]) := hm
    wtm_at "go"
    wtm_at "w"
    intro mx dm nz nd nne
    refine ⟨mx, dm, n, f, rfl, upd_same, fun H6 k6 hz => ⟨rfl, ?_⟩⟩
    have k56 : Kp [] H H6 := (Kp.made nz nd nne).tr1 k6 (.inr nz)
    clear k6
    wtm_at "w"
    intro z dx nz2 nd2 nne2
    refine ⟨z, dx, mx, rfl, upd_same, fun dR dE H7 k7 hz2 hR hE RE nR nE => ⟨rfl, ?_⟩⟩
    have k67 : Kp [] H6 H7 := (Kp.made nz2 nd2 nne2).tr1 k7 (.inr nz2)
    have nR0 : H dR = none := (k56.tr0 (Kp.made nz2 nd2 nne2)).n _ nR
    have nE0 : H dE = none := (k56.tr0 (Kp.made nz2 nd2 nne2)).n _ nE
    have nz0 : H z = none := k56.n _ nz2
    have k57 := k56.tr0 k67
    have L7 : LibAt X.K T.C_Library T.C_Mixing H7 z dx mx dR dE n f [] [] := .new hz2 ((show Mx T.C_Mixing H6 mx n f from hz).kp k67) hR hE RE
    have p7 := k57.at0 kn.hp
    clear k7 k56 k67 hm' nd nne nd2 nne2 nz nz2 hz hz2 hR hE
    wtm_at "w"
    refine xs_forL (by assumption) ?_
    wtm_at "w"
    have lk := kn.len
    refine ⟨kp, _, rfl, Z.SqL.of' (k57.at0 kn.hk), fun i σ H' => ∃ (v : Option V) (qs : List (Int × Addr × List Int)), σ = [some (.ref m), some (.ref p), some (.ref z), v] ∧ Kp [] H H' ∧ LibAt X.K T.C_Library T.C_Mixing H' z dx mx dR dE n f (ksOf (ws.take i)) qs ∧ QsOk n f (ws.take i) qs ∧ (∀ k ∈ qs, H k.2.1 = none) ∧ qs.length ≤ i, ⟨_, [], rfl, k57, L7, ⟨fun _ m => (nomatch m), fun _ m => (nomatch m)⟩, fun _ m => (nomatch m), by decide⟩, ?_, ?_, ?_⟩
    · rintro i σ' H' _ ⟨v, qs, rfl, k, _⟩
      exact Z.SqL.of' (k.at0 kn.hk)
    · rintro i y σ' H2 hy ⟨v, qs, rfl, k2, L2', qo, nq, lq⟩
      rw [List.getElem?_map, List.getElem?_map] at hy
      cases hw : ws[i]? with
      | none => rw [hw] at hy; cases hy
      | some w =>
        rw [hw] at hy
        have ey : V.ref w.2.1 = y := Option.some.inj hy
        subst ey
        have mw : w ∈ ws := List.mem_of_getElem? hw
        have hi := (List.getElem?_eq_some_iff.mp hw).1
        have tk : ws.take (i + 1) = ws.take i ++ [w] := by rw [List.take_add_one, hw]; rfl
        have hk0 := lkW_take kn.nd hw
        obtain ⟨e, g1, g2, g3, th⟩ := kn.at_ w mw
        have hdg := kn.dg w mw
        have g1' := k2.at0 g1
        have g3' := k2.at0 g3
        have ltk : (ksOf (ws.take i)).length ≤ 100 := by rw [ksOf_len, List.length_take]; omega
        have hkA : lkA (ksOf (ws.take i)) (dig n f w.2.2.2.1) = none := by rw [lkA_ksOf, ← hdg, hk0]; rfl
        refine xg_name C (by wtm_at "m") (by wtm_at "m") ?_
        refine ⟨_, by wtm_at "u", ?_⟩
        refine xb_cons ?_
        refine xs_expr ?_
        refine xe_meth (by assumption) (ok_put T) T.cl_Library (by omega) ?_
        wtm_at "w"
        refine ⟨z, dx, _, rfl, L2'.ha, lib_no mx dR dE (by decide +kernel) (by decide +kernel) (by decide +kernel), ?_⟩
        wtm_at "w"
        refine vc_listL (Z.SqL.of' g3') (fun hd H3 k3 nh hh => ?_)
        wtm_at "w"
        refine ⟨z, w.2.2.1, hd, mx, dR, dE, dx, n, f, w.2.2.2.1, w.2.2.2.2, ksOf (ws.take i), qs, rfl, L2'.kp k3, hn, (k2.tr0 k3).tup g2, hh, th, by omega, by omega, fun _ c H4 k4 nc L4 => ?_, fun z0 hk => ?_, fun z0 hk => ?_, fun z0 y hk => ?_⟩
        · refine xb_nil ?_
          have k04 : Kp [] H H4 := (k2.tr0 k3).tr k4 fun l m => by
            simp only [List.mem_cons, List.not_mem_nil, or_false] at m
            rcases m with rfl | rfl
            · exact .inr nR0
            · exact .inr nE0
          refine ⟨_, if w.2.2.2.1.getD 0 0 = 4 then qs ++ [(w.1, c, w.2.2.2.2)] else qs, rfl, k04, ?_, ?_, ?_, ?_⟩
          · rw [tk, ksOf_app, hdg]; exact L4
          · rw [tk]
            exact qo.snoc hk0 (L2'.only _ (by rw [hdg]; exact hkA))
          · intro k m
            by_cases h4 : w.2.2.2.1.getD 0 0 = 4
            · rw [if_pos h4] at m
              rcases List.mem_append.mp m with x | x
              · exact nq k x
              · rw [List.mem_singleton.mp x]; exact k2.n _ (k3.n _ (nc h4))
            · rw [if_neg h4] at m; exact nq k m
          · by_cases h4 : w.2.2.2.1.getD 0 0 = 4
            · rw [if_pos h4, List.length_append]; simp; omega
            · rw [if_neg h4]; omega
        · rw [hkA] at hk; cases hk
        · rw [hkA] at hk; cases hk
        · rw [hkA] at hk; cases hk
    · rintro σ' H2 ⟨v, qs, rfl, k2, L2', qo, nq, lq⟩
      rw [List.length_map, List.length_map] at L2' qo lq
      rw [List.take_length] at L2' qo
      wtm_at "w"
      exact q z dx mx dR dE qs H2 k2 nz0 nR0 nE0 L2' qo nq lq
end
/-! plokD -/
/-! a place as the law makes them -/
def PlOk (p : Pl) : Prop := (p.w = ("cite" : Str) ∨ p.w = ("back" : Str) ∨ p.w = ("entry" : Str)) ∧ (¬ p.w = ("entry" : Str) → p.way = []) ∧ 0 ≤ p.i
instance : DecidableEq Pl := fun ⟨w, i, y⟩ ⟨w', i', y'⟩ => decidable_of_iff (w = w' ∧ i = i' ∧ y = y') ⟨fun ⟨a, b, c⟩ => by rw [a, b, c], fun h => by cases h; exact ⟨rfl, rfl, rfl⟩⟩
/-! plok -/
/-! places and steps as data that can be compared -/
theorem plD_ok {p : Pl} (h : PlOk p) : (plD p).canLay0 = true ∧ (plD p).depth ≤ 2 := by
  have c : PyData.canLay0 (.str p.w) = true := by
    rcases h.1 with e | e | e <;> rw [e] <;> decide +kernel
  unfold plD
  by_cases e : p.w = ("entry" : Str)
  · rw [if_pos e]
    refine ⟨?_, by simp only [PyData.depth, PyData.depthAll, depth_ints]; omega⟩
    simp only [PyData.canLay0, PyData.canLayAll0, canLay_ints, Bool.and_true]
    simpa [PyData.canLay0] using c
  · rw [if_neg e]
    refine ⟨?_, by simp only [PyData.depth, PyData.depthAll]; omega⟩
    simp only [PyData.canLay0, PyData.canLayAll0, Bool.and_true]
    simpa [PyData.canLay0] using c
theorem stps_ok : ∀ {ss : List Stp}, (∀ s ∈ ss, PlOk s.2) → PyData.canLayAll0 (ss.map stpD) = true ∧ PyData.depthAll (ss.map stpD) ≤ 3
  | [], _ => ⟨rfl, by simp [PyData.depthAll]⟩
  | s :: r, h => by
    obtain ⟨a, b⟩ := stps_ok (ss := r) (fun x m => h x (List.mem_cons_of_mem _ m))
    obtain ⟨c, d⟩ := plD_ok (h s List.mem_cons_self)
    rw [List.map_cons, PyData.canLayAll0, PyData.depthAll, a]
    refine ⟨?_, ?_⟩
    · simp [stpD, PyData.canLay0, PyData.canLayAll0, canLay_ints, c]
    · have : (stpD s).depth ≤ 3 := by
        simp only [stpD, PyData.depth, PyData.depthAll, depth_ints]; omega
      omega
theorem shPap {first : List Int} {ss : List Stp} {r : List PyData} (h : ∀ s ∈ ss, PlOk s.2) (hr : PyData.canLayAll0 r = true) (hd : PyData.depthAll r ≤ 20) : SeqAt.shaped (.tuple (.tuple (first.map PyData.int) :: .list (ss.map stpD) :: r)) = true ∧ SeqAt.shaped (.list (.tuple (first.map PyData.int) :: .list (ss.map stpD) :: r)) = true := by
  obtain ⟨a, b⟩ := stps_ok h
  have d : PyData.depthAll (.tuple (first.map PyData.int) :: .list (ss.map stpD) :: r) ≤ 20 := by
    simp only [PyData.depthAll, PyData.depth, depth_ints]; omega
  unfold SeqAt.shaped
  simp only [PyData.canLay0, PyData.canLayAll0, canLay_ints, a, hr, PyData.depth, Bool.and_self, Bool.true_and]
  exact ⟨decide_eq_true (by omega), decide_eq_true (by omega)⟩
theorem eqvAll_cons (a b : PyData) (x y : List PyData) : PyData.eqvAll (a :: x) (b :: y) = (PyData.eqv a b && PyData.eqvAll x y) := by rw [PyData.eqvAll]
theorem eqv_int (a b : Int) : PyData.eqv (.int a) (.int b) = decide (a = b) := by simp only [PyData.eqv]; by_cases e : a = b <;> simp [e]
theorem eqv_str (a b : Str) : PyData.eqv (.str a) (.str b) = decide (a = b) := by simp only [PyData.eqv]; by_cases e : a = b <;> simp [e]
theorem eqv_tup (x y : List PyData) : PyData.eqv (.tuple x) (.tuple y) = PyData.eqvAll x y := by rw [PyData.eqv]
theorem eqv_lst (x y : List PyData) : PyData.eqv (.list x) (.list y) = PyData.eqvAll x y := by rw [PyData.eqv]
theorem eqv_pl {p q : Pl} (hp : PlOk p) (hq : PlOk q) : PyData.eqv (plD p) (plD q) = decide (p = q) := by
  obtain ⟨w, i, y⟩ := p
  obtain ⟨w', i', y'⟩ := q
  have hp2 := hp.2
  have hq2 := hq.2
  dsimp only at hp2 hq2
  have nl : ∀ ds : List PyData, ds ≠ [] → PyData.eqvAll ds [] = false := fun ds h => by cases ds with
    | nil => exact absurd rfl h
    | cons _ _ => rw [PyData.eqvAll]; all_goals (intros; simp_all)
  have nl2 : ∀ ds : List PyData, ds ≠ [] → PyData.eqvAll [] ds = false := fun ds h => by cases ds with
    | nil => exact absurd rfl h
    | cons _ _ => rw [PyData.eqvAll]; all_goals (intros; simp_all)
  unfold plD
  by_cases e : w = ("entry" : Str)
  · by_cases e' : w' = ("entry" : Str)
    · rw [if_pos e, if_pos e', eqv_tup, eqvAll_cons, eqvAll_cons, eqvAll_cons, eqv_str, eqv_int, eqv_T, show PyData.eqvAll [] [] = true by rw [PyData.eqvAll], Bool.and_true, ← Bool.decide_and, ← Bool.decide_and]
      exact decide_eq_decide.mpr ⟨fun ⟨a, b, c⟩ => by rw [show w = w' from a, show i = i' from b, show y = y' from c], fun z => by cases z; exact ⟨rfl, rfl, rfl⟩⟩
    · rw [if_pos e, if_neg e', eqv_tup, eqvAll_cons, eqv_str, decide_eq_false (show ¬ w = w' from fun z => e' (z ▸ e)), Bool.false_and]
      exact (decide_eq_false (fun z => by cases z; exact e' e)).symm
  · by_cases e' : w' = ("entry" : Str)
    · rw [if_neg e, if_pos e', eqv_tup, eqvAll_cons, eqv_str, decide_eq_false (show ¬ w = w' from fun z => e (z ▸ e')), Bool.false_and]
      exact (decide_eq_false (fun z => by cases z; exact e e')).symm
    · rw [if_neg e, if_neg e', eqv_tup, eqvAll_cons, eqvAll_cons, eqv_str, eqv_int, show PyData.eqvAll [] [] = true by rw [PyData.eqvAll], Bool.and_true, ← Bool.decide_and]
      refine decide_eq_decide.mpr ⟨fun ⟨a, b⟩ => ?_, fun z => by cases z; exact ⟨rfl, rfl⟩⟩
      rw [hp2.1 e, hq2.1 e', show w = w' from a, show i = i' from b]
theorem eqv_stps : ∀ {a b : List Stp}, (∀ s ∈ a, PlOk s.2) → (∀ s ∈ b, PlOk s.2) → PyData.eqvAll (a.map stpD) (b.map stpD) = decide (a = b)
  | [], [], _, _ => by simp [PyData.eqvAll]
  | [], _ :: _, _, _ => by simp [PyData.eqvAll]
  | _ :: _, [], _, _ => by simp [PyData.eqvAll]
  | s :: a, t :: b, ha, hb => by
    rw [List.map_cons, List.map_cons, eqvAll_cons, eqv_stps (fun x m => ha x (List.mem_cons_of_mem _ m)) (fun x m => hb x (List.mem_cons_of_mem _ m))]
    unfold stpD
    rw [eqv_tup, eqvAll_cons, eqvAll_cons, eqv_T, eqv_pl (ha s List.mem_cons_self) (hb t List.mem_cons_self), show PyData.eqvAll [] [] = true by rw [PyData.eqvAll], Bool.and_true, ← Bool.decide_and, ← Bool.decide_and]
    refine decide_eq_decide.mpr ⟨fun ⟨⟨x, y⟩, z⟩ => ?_, fun z => by cases z; exact ⟨⟨rfl, rfl⟩, rfl⟩⟩
    rw [z, show s = t from Prod.ext x y]
/-! placeT -/
/-- a place of a drawn thing -/
theorem place_ofT {n f : Int} {row es : List Int} {x : Pl × Int} (wt : Th n f row es) (h : x ∈ placesN n f row es) : hasPl row x.1 = true ∧ (¬ x.1.w = ("entry" : Str) → heldO row x.1 = some x.2) ∧ (x.1.w = ("entry" : Str) → row.getD 0 0 = 4 ∧ row.getD 4 0 = es.length ∧ 0 ≤ x.1.i ∧ x.1.i < es.length ∧ x.1.way = wy n f es x.1.i.toNat ∧ x.2 = es.getD x.1.i.toNat 0) := by
  have th := wt.thing
  have ro := wt.ok
  have fromHeld : ∀ {p : Pl} {d : Int}, heldO row p = some d → hasPl row p = true := fun {p d} hh => by
    unfold heldO at hh
    cases e : hasPl row p with
    | true => rfl
    | false => rw [if_pos (.inr e)] at hh; cases hh
  unfold placesN at h
  by_cases h2 : row.getD 0 0 = 2
  · obtain ⟨l2, l3⟩ := isThing_doc th h2
    rw [if_pos h2] at h
    unfold citesN at h
    obtain ⟨k, hk, rfl⟩ := List.mem_map.mp h
    rw [List.mem_range] at hk
    have hh : heldO row ⟨"cite", (k : Int), []⟩ = some (row.getD (2 + k) 0) := by
      rw [heldO_cite (p := ⟨"cite", (k : Int), []⟩) th ro rfl, if_pos ⟨h2, by show 0 ≤ (k : Int); omega, by show (k : Int) < _; omega⟩]; rfl
    exact ⟨fromHeld hh, fun _ => hh, fun e => absurd e (show ¬ ("cite" : Str) = "entry" by decide +kernel)⟩
  · rw [if_neg h2] at h
    by_cases h4 : row.getD 0 0 = 4
    · obtain ⟨l6, _⟩ := isThing_hd th h4
      obtain ⟨s, kk, hh', bs, er, e1, e5⟩ := wt.hd h4
      have r4 : row.getD 4 0 = (es.length : Int) := by rw [er]; rfl
      rw [if_pos h4] at h
      rcases List.mem_append.mp h with h | h
      · unfold backsN at h
        obtain ⟨k, hk, rfl⟩ := List.mem_map.mp h
        rw [List.mem_range] at hk
        have hh : heldO row ⟨"back", (k : Int), []⟩ = some (row.getD (6 + k) 0) := by
          rw [heldO_back (p := ⟨"back", (k : Int), []⟩) th rfl, if_pos ⟨h4, by show 0 ≤ (k : Int); omega, by show (k : Int) < _; omega⟩]; rfl
        exact ⟨fromHeld hh, fun _ => hh, fun e => absurd e (show ¬ ("back" : Str) = "entry" by decide +kernel)⟩
      · unfold entsN at h
        obtain ⟨k, hk, rfl⟩ := List.mem_map.mp h
        rw [List.mem_range] at hk
        refine ⟨?_, fun e => absurd rfl e, fun _ => ⟨h4, r4, by show 0 ≤ (k : Int); omega, by show (k : Int) < _; omega, rfl, rfl⟩⟩
        unfold hasPl
        rw [if_pos rfl]
        apply decide_eq_true
        exact ⟨h4, by show 0 ≤ (k : Int); omega, by show (k : Int) < _; rw [r4]; omega⟩
    · rw [if_neg h4] at h; cases h
theorem ahead_okT {n f : Int} {row es bs : List Int} {p : Pl} {d : Int} (wt : Th n f row es) (h : (p, d) ∈ placesN n f row es) (e : dig n f bs = d) (hr : rrB bs row p = true) : stepWhy n f bs row p = none := by
  obtain ⟨h1, h2, h3⟩ := place_ofT wt h
  have ho : holdsB n f row p (dig n f bs) = true := by
    unfold holdsB
    by_cases he : p.w = ("entry" : Str)
    · obtain ⟨q4, q5, q6, q7, q8, q9⟩ := h3 he
      rw [if_pos he, show hasPl row p = true from h1, Bool.true_and]
      apply decide_eq_true
      unfold climbO
      have q5' : row.getD 4 0 = (es.length : Int) := q5
      have q8' : p.way = wy n f es p.i.toNat := q8
      have q9' : d = es.getD p.i.toNat 0 := q9
      rw [q5', Int.toNat_natCast, q8', if_pos (wy_len n f es.length es p.i.toNat (Nat.le_refl _)).symm, e]
      obtain ⟨s, k, hh, bs', er, _, _⟩ := wt.hd q4
      have r5 : row.getD 5 0 = rt n f es := by rw [er]; rfl
      have hi : p.i.toNat < es.length := by
        have : p.i < (es.length : Int) := q7
        have : 0 ≤ p.i := q6
        omega
      rw [cl_wy n f es.length es p.i.toNat d (Nat.le_refl _) (by rw [q9', List.getD_eq_getElem?_getD, List.getElem?_eq_getElem hi]; rfl), r5]
    · rw [if_neg he]
      apply decide_eq_true
      rw [e]; exact h2 he
  unfold stepWhy
  rw [if_pos wt.thing, if_pos h1, if_pos ho, if_pos hr]
/-! tsnoc -/
/-! one more -/
theorem take_snoc {α : Type} {l : List α} {t : Nat} {x : α} (h : l[t]? = some x) : l.take (t + 1) = l.take t ++ [x] := by rw [List.take_add_one, h]; rfl
/-! _law_places_m -/
section
local macro_rules | `(tactic| wtm_at "d") => `(tactic| first | ((with_reducible show Z.XE _ (PySem.Expr.Call (PySem.Expr.Name "len" _) (_ :: _) [] _) _ _ _); refine Z.xe_callB (id := "len") (by assumption) (by wtm_at "m") T.b_len (by decide +kernel) ?_) | ((with_reducible show Z.XE _ (PySem.Expr.Call (PySem.Expr.Name "_law_digest" _) (_ :: _) [] _) _ _ _); refine Z.xe_call (by assumption) (Law.ok__law_digest T) (by wtm_at "m") (by omega) ?_) | ((with_reducible show Z.XE _ (PySem.Expr.Call (PySem.Expr.Name "_law_way" _) (_ :: _) [] _) _ _ _); refine Z.xe_call (by assumption) (Law.ok__law_way T) (by wtm_at "m") (by omega) ?_) | ((with_reducible show Z.XE _ (PySem.Expr.Call (PySem.Expr.Name "_law_backs" _) (_ :: _) [] _) _ _ _); refine Z.xe_call (by assumption) (Law.ok__law_backs T) (by wtm_at "m") (by omega) ?_) | fail)
/-! the places at which a thing holds another one by a link -/
def PB (n f : Int) (row bs : List Int) (x : Pl × Int) : Bool := decide (x.2 = dig n f bs) && rrB bs row x.1
def flB (n f : Int) (row bs : List Int) (xs : List (Pl × Int)) : List PyData := (xs.filter (PB n f row bs)).map fun x => plD x.1
def placesB (n f : Int) (row es bs : List Int) : List Pl := ((placesN n f row es).filter (PB n f row bs)).map (·.1)
theorem placesB_fl (n f : Int) (row es bs : List Int) : (placesB n f row es bs).map plD = flB n f row bs (placesN n f row es) := by unfold placesB flB; rw [List.map_map]; rfl
theorem flB_app (n f : Int) (row bs : List Int) (xs ys : List (Pl × Int)) : flB n f row bs (xs ++ ys) = flB n f row bs xs ++ flB n f row bs ys := by unfold flB; rw [List.filter_append, List.map_append]
theorem flB_one (n f : Int) (row bs : List Int) (x : Pl × Int) : flB n f row bs [x] = if PB n f row bs x = true then [plD x.1] else [] := by
  unfold flB
  rw [List.filter_cons]
  by_cases h : PB n f row bs x = true
  · rw [if_pos h, if_pos h]; rfl
  · rw [if_neg h, if_neg h]; rfl
theorem noL_flB (n f : Int) (row bs : List Int) : ∀ xs : List (Pl × Int), noLs (flB n f row bs xs) = true := fun xs => by
  have : ∀ ys : List (Pl × Int), noLs (ys.map fun x => plD x.1) = true := by
    intro ys
    induction ys with
    | nil => rfl
    | cons y ys ih => rw [List.map_cons, noLs, noL_pl, ih]; rfl
  exact this _
theorem flB_len (n f : Int) (row bs : List Int) (xs : List (Pl × Int)) : (flB n f row bs xs).length ≤ xs.length := by unfold flB; rw [List.length_map]; exact List.length_filter_le _ _
theorem rrB_else {bs row : List Int} {p : Pl} (h : ¬ p.w = ("back" : Str)) : rrB bs row p = true := by unfold rrB; rw [if_neg h]
/-- one more: kept or not -/
theorem flB_yes {K : PySem.W.Frag} {H H' : Hp} {A : List Addr} {n f : Int} {row bs : List Int} {us : List V} {ds : List PyData} {l : List (Pl × Int)} {t : Nat} {x : Pl × Int} {v : V} (hx : l[t]? = some x) (hp : PB n f row bs x = true) (k : Kp A H H') (hn : noLs ds = true) (hd : DpAll K H us (ds ++ flB n f row bs (l.take t))) (hv : Dp K H' v (plD x.1)) : DpAll K H' (us ++ [v]) (ds ++ flB n f row bs (l.take (t + 1))) := by
  rw [take_snoc hx, flB_app, flB_one, if_pos hp, ← List.append_assoc]
  refine dpAll_app (dpAll_kpT k ?_ hd) (.cons hv .nil)
  have : ∀ xs ys : List PyData, noLs xs = true → noLs ys = true → noLs (xs ++ ys) = true := by
    intro xs
    induction xs with
    | nil => intro ys _ h; exact h
    | cons x xs ih =>
      intro ys h1 h2
      simp only [noLs, Bool.and_eq_true] at h1
      rw [List.cons_append, noLs, h1.1, ih ys h1.2 h2]; rfl
  exact this _ _ hn (noL_flB _ _ _ _ _)
theorem flB_no {n f : Int} {row bs : List Int} {l : List (Pl × Int)} {t : Nat} {x : Pl × Int} (hx : l[t]? = some x) (hp : PB n f row bs x = false) : flB n f row bs (l.take (t + 1)) = flB n f row bs (l.take t) := by
  rw [take_snoc hx, flB_app, flB_one, if_neg (by rw [hp]; decide), List.append_nil]
def sp_lplM (K : PySem.W.Frag) : Sp := fun vs H Q _ => ∃ (m p a e ba : Addr) (n f : Int) (row es bs : List Int), vs = [.ref m, .ref p, .ref ba] ∧ H m = some (.lst ([n, f].map V.int)) ∧ H p = some (.lst [.ref a, .ref e]) ∧ SqT K H a (row.map V.int) ∧ H e = some (.lst (es.map V.int)) ∧ Th n f row es ∧ SqT K H ba (bs.map V.int) ∧ isThing bs = true ∧ 0 < n ∧
  ∀ L us H', Kp [] H H' → H L = none → H' L = some (.lst us) → DpAll K H' us ((placesB n f row es bs).map plD) → Q (.ref L) H'
theorem ok__law_places (T : Txt P w K mg base) : DefOk P w K mg base "_law_places" ["mix", "thing", "before"] 13 (sp_lplM K) := by
  refine DefOk.by T.d__law_places sc__law_places oc__law_places (fun vs H Q E h => ?_) (fun X e1 e2 e3 e4 e5 C H vs Q E h => ?_)
  · obtain ⟨m, p, a, e, ba, n, f, row, es, bs, rfl, _⟩ := h; rfl
  · obtain ⟨m, p, a, e, ba, n, f, row, es, bs, rfl, hm, hp, ha, he, wt, hb, tb, hn, q⟩ := h
    have th := wt.thing
    have hpos := isThing_pos th
    have bpos := isThing_pos tb
    have el := wt.el
    have rl := wt.len
    have p0 : placesN n f row es = if row.getD 0 0 = 2 then citesN row else if row.getD 0 0 = 4 then backsN row ++ entsN n f es else [] := rfl
    rw [placesB_fl] at q
    have nc : ¬ ("cite" : Str) = ("entry" : Str) := by decide +kernel
    have nb : ¬ ("back" : Str) = ("entry" : Str) := by decide +kernel
    have ncb : ¬ ("cite" : Str) = ("back" : Str) := by decide +kernel
    have neb : ¬ ("entry" : Str) = ("back" : Str) := by decide +kernel
    have hm' : H m = some (.lst [.int n, .int f]) := hm
    subst e1; subst e2; subst e3; subst e4; subst e5
    -- behind the cites
    have rest : ∀ (L : Addr) (us : List V) (H1 : Hp) (v6 v7 : Option V), Kp [] H H1 → H L = none → H1 L = some (.lst us) → DpAll X.K H1 us (flB n f row bs (if row.getD 0 0 = 2 then citesN row else [])) → XB X ((defBody s__law_places).drop 4) (fun _ H' => Q .non H') ⟨Q, fun _ _ => False, fun _ _ => False⟩ [some (.ref m), some (.ref p), some (.ref ba), some (.ref a), some (.int (dig n f bs)), some (.ref L), v6, v7] H1 := by
      intro L us H1 v6 v7 k1 nL hL hd
      have ha1 := k1.tup ha
      refine xb_cons ?_
      wtm_at "w"
      refine vx_tup ha1 (at_getD 0 (by omega)) ?_
      wtm_at "w"
      refine ite_d (fun h4 => ?_) (fun h4 => ?_)
      · have h2 : ¬ row.getD 0 0 = 2 := by omega
        rw [if_neg h2, if_pos h4] at p0
        rw [if_neg h2] at hd
        obtain ⟨l6, c1, l66⟩ := isThing_hd th h4
        obtain ⟨t0, t1⟩ := wt.two h4
        have u0 : us = [] := by
          have := dpAll_len hd
          exact List.length_eq_zero_iff.mp this
        subst u0
        have hid : Fr [] H H1 := k1
        clear k1 hd
        wtm_at "w"
        refine vx_tup ha1 (at_getD 2 (by omega)) ?_
        wtm_at "w"
        refine ⟨row.getD 2 0, rfl, t0, by omega, fun R H2 k2 nR hR => ?_⟩
        have hL2 := k2.at0 hL
        have ha2 := k2.tup ha1
        have nLR : L ≠ R := ne_of_none hL nR
        have hid2 : Fr [] H H2 := hid.k.tr0 k2
        have hb2 := hid2.k.tup hb
        clear k2 hL hid ha1
        refine ⟨_, by wtm_at "u", ?_⟩
        refine xb_cons ?_
        refine xs_forR1 (by assumption) (by wtm_at "m") T.b_range ?_
        wtm_at "w"
        rw [List.length_map, bkTo_len]
        have lB : (backsN row).length = row.length - 6 := by unfold backsN; rw [List.length_map, List.length_range]
        refine ⟨_, rfl, by omega, by omega, fun t σ H' => ∃ (v7 : Option V) (us : List V), σ = [some (.ref m), some (.ref p), some (.ref ba), some (.ref a), some (.int (dig n f bs)), some (.ref L), v7, some (.ref R)] ∧ Kp [L] H2 H' ∧ H' L = some (.lst us) ∧ DpAll X.K H' us ([] ++ flB n f row bs ((backsN row).take t)), ⟨_, [], rfl, Kp.refl _ _, hL2, .nil⟩, ?_, ?_⟩
        · rintro t σ' H3 ht ⟨v7, us3, rfl, k3, h3, d3⟩
          have ht' : t < row.length - 6 := by omega
          have hx : (backsN row)[t]? = some (⟨"back", (t : Int), []⟩, row.getD (6 + t) 0) := by
            unfold backsN; rw [List.getElem?_map, List.getElem?_range ht']; rfl
          have a3 := k3.tup ha2
          have b3 := k3.tup hb2
          have R3 := k3.at1 (Ne.symm nLR) hR
          have lu := dpAll_len d3
          have lf := flB_len n f row bs ((backsN row).take t)
          rw [List.length_take] at lf
          rw [List.nil_append] at lu
          have hk : Fr [L] H2 H3 := k3
          clear k3
          have keep : PB n f row bs (⟨"back", (t : Int), []⟩, row.getD (6 + t) 0) = false → ∀ v7, ∃ (v7' : Option V) (us : List V), ([some (.ref m), some (.ref p), some (.ref ba), some (.ref a), some (.int (dig n f bs)), some (.ref L), some v7, some (.ref R)] : St) = [some (.ref m), some (.ref p), some (.ref ba), some (.ref a), some (.int (dig n f bs)), some (.ref L), v7', some (.ref R)] ∧ Kp [L] H2 H3 ∧ H3 L = some (.lst us) ∧ DpAll X.K H3 us ([] ++ flB n f row bs ((backsN row).take (t + 1))) := fun hp v7 => ⟨_, us3, rfl, hk.k, h3, by rw [flB_no hx hp]; exact d3⟩
          have pb : PB n f row bs (⟨"back", (t : Int), []⟩, row.getD (6 + t) 0) = (decide (row.getD (6 + t) 0 = dig n f bs) && decide (bs.getD 0 0 = 4 ∧ bs.getD 1 0 = row.getD 1 0 ∧ bs.getD 2 0 = row.getD 2 0 - 2 ^ t ∧ bs.getD 3 0 < row.getD 3 0)) := by
            unfold PB rrB
            rw [if_pos rfl, Int.toNat_natCast]
          wtm_at "w"
          refine vx_tup a3 (at_getDi (j := 6 + t) (by omega) (by omega)) ?_
          wtm_at "w"
          refine ite_d (fun c1 => ?_) (fun c1 => ?_)
          · wtm_at "w"
            refine vx_tup b3 (at_getD 0 (by omega)) ?_
            wtm_at "w"
            refine ite_d (fun c2 => ?_) (fun c2 => ?_)
            · obtain ⟨b6, _⟩ := isThing_hd tb c2
              wtm_at "w"
              refine vx_tup b3 (at_getD 1 (by omega)) ?_
              wtm_at "w"
              refine vx_tup a3 (at_getD 1 (by omega)) ?_
              wtm_at "w"
              refine ite_d (fun c3 => ?_) (fun c3 => ?_)
              · wtm_at "w"
                refine vx_tup b3 (at_getD 2 (by omega)) ?_
                wtm_at "w"
                have hbk : (bkTo (row.getD 2 0) (cntB (row.getD 2 0)))[t]? = some (row.getD 2 0 - 2 ^ t) := by
                  unfold bkTo; rw [List.getElem?_map, List.getElem?_range (by omega)]; rfl
                refine vx_lst (Z.SqL.of' R3) (at_map_nat hbk) ?_
                wtm_at "w"
                refine ite_d (fun c4 => ?_) (fun c4 => ?_)
                · wtm_at "w"
                  refine vx_tup b3 (at_getD 3 (by omega)) ?_
                  wtm_at "w"
                  refine vx_tup a3 (at_getD 3 (by omega)) ?_
                  wtm_at "w"
                  refine ite_d (fun c5 => ?_) (fun c5 => ?_)
                  · refine xb_cons ?_
                    wtm_at "w"
                    refine xe_str ?_
                    wtm_at "w"
                    intro q2 H4 k4 h4' _
                    refine ⟨k4.at0 h3, szl (by omega), fun H5 k5 h5 => ?_⟩
                    wtm_at "w"
                    have k35 : Kp [L] H3 H5 := (k4.wk (fun l m => nomatch m)).tr k5 (fun l m => .inl m)
                    refine ⟨_, _, rfl, hk.k.tr k35 (fun l m => .inl m), h5, flB_yes hx ?_ k35 rfl d3 ?_⟩
                    · rw [pb, decide_eq_true c1, decide_eq_true ⟨c2, c3, c4, c5⟩]; rfl
                    · rw [plD_two nb]
                      exact .tup (k5.tup h4') (.cons (.str _) (.cons (.int _) .nil))
                  · repeat refine xb_nil ?_
                    exact keep (by rw [pb, decide_eq_false (fun z : bs.getD 0 0 = 4 ∧ bs.getD 1 0 = row.getD 1 0 ∧ bs.getD 2 0 = row.getD 2 0 - 2 ^ t ∧ bs.getD 3 0 < row.getD 3 0 => c5 z.2.2.2), Bool.and_false]) _
                · repeat refine xb_nil ?_
                  exact keep (by rw [pb, decide_eq_false (fun z : bs.getD 0 0 = 4 ∧ bs.getD 1 0 = row.getD 1 0 ∧ bs.getD 2 0 = row.getD 2 0 - 2 ^ t ∧ bs.getD 3 0 < row.getD 3 0 => c4 z.2.2.1), Bool.and_false]) _
              · repeat refine xb_nil ?_
                exact keep (by rw [pb, decide_eq_false (fun z : bs.getD 0 0 = 4 ∧ bs.getD 1 0 = row.getD 1 0 ∧ bs.getD 2 0 = row.getD 2 0 - 2 ^ t ∧ bs.getD 3 0 < row.getD 3 0 => c3 z.2.1), Bool.and_false]) _
            · repeat refine xb_nil ?_
              exact keep (by rw [pb, decide_eq_false (fun z : bs.getD 0 0 = 4 ∧ bs.getD 1 0 = row.getD 1 0 ∧ bs.getD 2 0 = row.getD 2 0 - 2 ^ t ∧ bs.getD 3 0 < row.getD 3 0 => c2 z.1), Bool.and_false]) _
          · repeat refine xb_nil ?_
            exact keep (by rw [pb, decide_eq_false c1, Bool.false_and]) _
        · rintro σ' H3 ⟨v7, us3, rfl, k3, h3, d3⟩
          have e0 : ((cntB (row.getD 2 0) : Nat) : Int).toNat = (backsN row).length := by omega
          rw [e0, List.take_length, List.nil_append] at d3
          have nm : m ≠ L := ne_of_none hm nL
          have np : p ≠ L := ne_of_none hp nL
          have ne : e ≠ L := ne_of_none he nL
          have m3 := k3.at1 nm (hid2.k.at0 hm)
          have p3 := k3.at1 np (hid2.k.at0 hp)
          have e3 := k3.at1 ne (hid2.k.at0 he)
          have hid3 : Fr [] H H3 := hid2.k.tr1 k3 (.inr nL)
          clear k3 hid2 hL2 hR nLR
          refine xb_cons ?_
          refine xs_forR1 (by assumption) (by wtm_at "m") T.b_range ?_
          wtm_at "w"
          rw [List.length_map]
          have lE : (entsN n f es).length = es.length := by unfold entsN; simp
          refine ⟨_, rfl, by omega, by omega, fun t σ H' => ∃ (v7 : Option V) (us : List V), σ = [some (.ref m), some (.ref p), some (.ref ba), some (.ref a), some (.int (dig n f bs)), some (.ref L), v7, some (.ref R)] ∧ Kp [L] H3 H' ∧ H' L = some (.lst us) ∧ DpAll X.K H' us (flB n f row bs (backsN row) ++ flB n f row bs ((entsN n f es).take t)), ⟨_, us3, rfl, Kp.refl _ _, h3, by simpa [flB] using d3⟩, ?_, ?_⟩
          · rintro t σ' H4 ht ⟨v7, us4, rfl, k4, h4', d4⟩
            have ht' : t < es.length := by omega
            have hx : (entsN n f es)[t]? = some (⟨"entry", (t : Int), wy n f es t⟩, es.getD t 0) := by
              unfold entsN; rw [List.getElem?_map, List.getElem?_range ht']; rfl
            have lu := dpAll_len d4
            have lf := flB_len n f row bs ((entsN n f es).take t)
            have lf2 := flB_len n f row bs (backsN row)
            rw [List.length_take] at lf
            rw [List.length_append] at lu
            have m4 := k4.at1 nm m3
            have p4 := k4.at1 np p3
            have e4 := k4.at1 ne e3
            have hk : Fr [L] H3 H4 := k4
            have pb : PB n f row bs (⟨"entry", (t : Int), wy n f es t⟩, es.getD t 0) = decide (es.getD t 0 = dig n f bs) := by
              unfold PB
              rw [rrB_else neb, Bool.and_true]
            clear k4
            wtm_at "w"
            refine vx_lst (Z.SqL.of' e4) (at_getD t ht') ?_
            wtm_at "w"
            refine ite_d (fun c1 => ?_) (fun c1 => ?_)
            · refine xb_cons ?_
              wtm_at "w"
              refine xe_str ?_
              wtm_at "w"
              refine ⟨m, e, n, f, es, t, rfl, Z.SqL.of' m4, Z.SqL.of' e4, ht', by omega, hn, fun tw H5 k5 hw5 => ?_⟩
              wtm_at "w"
              intro q2 H6 k6 h6 _
              refine ⟨k6.at0 (k5.at0 h4'), szl (by omega), fun H7 k7 h7 => ?_⟩
              wtm_at "w"
              have k47 : Kp [L] H4 H7 := ((k5.tr0 k6).wk (fun l m => nomatch m)).tr k7 (fun l m => .inl m)
              refine ⟨_, _, rfl, hk.k.tr k47 (fun l m => .inl m), h7, flB_yes hx (by rw [pb, decide_eq_true c1]) k47 (noL_flB _ _ _ _ _) d4 ?_⟩
              rw [plD_three]
              exact .tup (k7.tup h6) (.cons (.str _) (.cons (.int _) (.cons (dp_T (k7.tup (k6.tup hw5))) .nil)))
            · repeat refine xb_nil ?_
              exact ⟨_, us4, rfl, hk.k, h4', by rw [flB_no hx (by rw [pb, decide_eq_false c1])]; exact d4⟩
          · rintro σ' H4 ⟨v7, us4, rfl, k4, h4', d4⟩
            have e5 : ((es.length : Nat) : Int).toNat = (entsN n f es).length := by omega
            rw [e5, List.take_length, ← flB_app, ← p0] at d4
            wtm_at "w"
            exact q L us4 H4 (hid3.k.tr1 k4 (.inr nL)) nL h4' d4
      · refine xb_nil ?_
        rw [if_neg h4] at p0
        wtm_at "w"
        refine q L us H1 k1 nL hL ?_
        rw [p0]; exact hd
    simp only [st0]
    refine xb_cons ?_
    wtm_at "w"
    refine ⟨m, ba, n, f, bs, rfl, Z.SqL.of' hm, hb, hn, ?_⟩
    wtm_at "w"
    intro L H1 k1 nL hL
    have ha1 := k1.tup ha
    wtm_at "w"
    refine vx_tup ha1 (at_getD 0 (by omega)) ?_
    wtm_at "w"
    refine ite_d (fun h2 => ?_) (fun h2 => ?_)
    · obtain ⟨l2, l3⟩ := isThing_doc th h2
      have c0 := wt.ok.one
      clear hL nL
      have lC : (citesN row).length = (row.getD 1 0).toNat := by unfold citesN; rw [List.length_map, List.length_range]
      refine xb_cons ?_
      refine xs_setLc C (by wtm_at "m") (by decide +kernel) rfl (by decide +kernel) ?_
      refine xlc_R1 (Vs' := ["row", "number", "i"]) (G' := []) (nm := "i") (i := 6) (by assumption) ⟨rfl, by decide +kernel, by decide +kernel, rfl, by decide +kernel, by decide⟩ (by wtm_at "m") T.b_range ?_
      wtm_at "w"
      refine vx_tup ha1 (at_getD 1 (by omega)) ?_
      wtm_at "w"
      refine ⟨_, rfl, by omega, by omega, fun L2' H2 k2 nL2 hL2 => ⟨fun t H' => Kp [] H1 H' ∧ ∃ us, H' L2' = some (.lst us) ∧ DpAll X.K H' us ([] ++ flB n f row bs ((citesN row).take t)), ⟨k2, [], hL2, .nil⟩, ?_, ?_⟩⟩
      · rintro t H3 ht ⟨k3, us3, h3, d3⟩
        clear k2
        have hx : (citesN row)[t]? = some (⟨"cite", (t : Int), []⟩, row.getD (2 + t) 0) := by
          unfold citesN; rw [List.getElem?_map, List.getElem?_range (by omega)]; rfl
        have pb : PB n f row bs (⟨"cite", (t : Int), []⟩, row.getD (2 + t) 0) = decide (row.getD (2 + t) 0 = dig n f bs) := by
          unfold PB
          rw [rrB_else ncb, Bool.and_true]
        have lu := dpAll_len d3
        have lf := flB_len n f row bs ((citesN row).take t)
        rw [List.length_take] at lf
        rw [List.nil_append] at lu
        have a3 := k3.tup ha1
        have hid : Fr [] H1 H3 := k3
        clear k3
        refine ⟨_, by wtm_at "u", ?_⟩
        intro s0 H0 c' cl fp C'
        wtm_at "w"
        refine vx_tup a3 (at_getDi (j := 2 + t) (by omega) (by omega)) ?_
        wtm_at "w"
        refine ite_d (fun c1 => ?_) (fun c1 => ?_)
        · intro s1 H01 c2 cl2 fp2 C2
          refine xe_tup ?_
          refine xa_cons ?_
          refine xe_str ?_
          wtm_at "w"
          intro q2 H4 k4 h4 _
          refine ⟨us3, k4.at0 h3, szl (by omega), fun H5 k5 h5 => ⟨(hid.k.tr0 k4).tr1 k5 (.inr nL2), _, h5, ?_⟩⟩
          have k35 : Kp [L2'] H3 H5 := (k4.wk (fun l m => nomatch m)).tr k5 (fun l m => .inl m)
          refine flB_yes hx (by rw [pb, decide_eq_true c1]) k35 rfl d3 ?_
          rw [plD_two nc]
          exact .tup (k5.tup h4) (.cons (.str _) (.cons (.int _) .nil))
        · exact ⟨hid.k, us3, h3, by rw [flB_no hx (by rw [pb, decide_eq_false c1])]; exact d3⟩
      · rintro H3 ⟨k3, us3, h3, d3⟩
        rw [← lC, List.take_length, List.nil_append] at d3
        refine ⟨_, by wtm_at "u", xb_nil (rest L2' us3 H3 _ _ (k1.tr0 k3) (k1.n _ nL2) h3 (by rw [if_pos h2]; exact d3))⟩
    · exact xb_nil (rest L [] H1 _ _ k1 nL hL (by rw [if_neg h2]; exact .nil))
end
/-! inL -/
/-! membership in a list of data -/
theorem pls_ok : ∀ {ps : List Pl}, (∀ p ∈ ps, PlOk p) → PyData.canLayAll0 (ps.map plD) = true ∧ PyData.depthAll (ps.map plD) ≤ 2
  | [], _ => ⟨rfl, by simp [PyData.depthAll]⟩
  | p :: r, h => by
    obtain ⟨a, b⟩ := pls_ok (ps := r) (fun x m => h x (List.mem_cons_of_mem _ m))
    obtain ⟨c, d⟩ := plD_ok (h p List.mem_cons_self)
    rw [List.map_cons, PyData.canLayAll0, PyData.depthAll, a, c]
    exact ⟨rfl, by omega⟩
theorem sh_list {ds : List PyData} (h : PyData.canLayAll0 ds = true) (d : PyData.depthAll ds ≤ 20) : SeqAt.shaped (.list ds) = true := by
  unfold SeqAt.shaped
  simp only [PyData.canLay0, h, PyData.depth, Bool.true_and]
  exact decide_eq_true (by omega)
theorem sh_pl {p : Pl} (h : PlOk p) : SeqAt.shaped (plD p) = true := by
  obtain ⟨c, d⟩ := plD_ok h
  unfold SeqAt.shaped
  rw [c, Bool.true_and]
  exact decide_eq_true (by omega)
theorem rows_ok : ∀ rs : List (List Int), PyData.canLayAll0 (rs.map tupD) = true ∧ PyData.depthAll (rs.map tupD) ≤ 1
  | [] => ⟨rfl, by simp [PyData.depthAll]⟩
  | r :: rs => by
    obtain ⟨a, b⟩ := rows_ok rs
    rw [List.map_cons, PyData.canLayAll0, PyData.depthAll, a]
    refine ⟨by simp [tupD, PyData.canLay0, canLay_ints], ?_⟩
    have : (tupD r).depth = 1 := by simp [tupD, PyData.depth, depth_ints]
    omega
section
variable {X : Cx} {H : Hp} {Q : VK} {N Vs Ls G : List Str} {k : Nat} {sc : Scope} {v u : V} {d : PyData} {ds : List PyData}
theorem vo_inL (C : Ctx X sc N Vs Ls G k) (hd : Dp X.K H v d) (he : Dp X.K H u (.list ds)) (sd : SeqAt.shaped d = true) (se : SeqAt.shaped (.list ds) = true) (h : Q (.bl (ds.any fun z => PyData.eqv z d)) H) : VO X (compareOp .In) v u H Q := ⟨_, op_inD (by have := C.room.un; omega), d, ds, hd, he, sd, se, h⟩
theorem vo_notInL (C : Ctx X sc N Vs Ls G k) (hd : Dp X.K H v d) (he : Dp X.K H u (.list ds)) (sd : SeqAt.shaped d = true) (se : SeqAt.shaped (.list ds) = true) (h : Q (.bl (!ds.any fun z => PyData.eqv z d)) H) : VO X (compareOp .NotIn) v u H Q := ⟨_, op_notInD (by have := C.room.un; omega), d, ds, hd, he, sd, se, h⟩
end
/-! papN -/
/-- a paper at p: its first row at fr, its steps told as data -/
def PapAt (K : PySem.W.Frag) (CP : Addr) (H : Hp) (p fr : Addr) (row : List Int) (ds : List PyData) : Prop := ∃ dx st vs, H p = some (.ins CP dx (papF (.ref fr) st)) ∧ H st = some (.lst vs) ∧ DpAll K H vs ds ∧ SqT K H fr (row.map V.int)
theorem PapAt.kp {K : PySem.W.Frag} {CP : Addr} {H H' : Hp} {p fr : Addr} {row : List Int} {ds : List PyData} (h : PapAt K CP H p fr row ds) (k : Kp [] H H') : PapAt K CP H' p fr row ds := by
  obtain ⟨dx, st, vs, h1, h2, h3, h4⟩ := h
  exact ⟨dx, st, vs, k.at0 h1, k.at0 h2, dpAll_kp k h3, k.tup h4⟩
/-- a new paper: its list of steps is new too -/
def PapN (K : PySem.W.Frag) (CP : Addr) (H0 H : Hp) (p fr : Addr) (row : List Int) (ds : List PyData) : Prop := ∃ dx st vs, H p = some (.ins CP dx (papF (.ref fr) st)) ∧ H st = some (.lst vs) ∧ DpAll K H vs ds ∧ SqT K H fr (row.map V.int) ∧ H0 st = none
theorem PapN.at {K : PySem.W.Frag} {CP : Addr} {H0 H : Hp} {p fr : Addr} {row : List Int} {ds : List PyData} (h : PapN K CP H0 H p fr row ds) : PapAt K CP H p fr row ds := by
  obtain ⟨dx, st, vs, h1, h2, h3, h4, _⟩ := h
  exact ⟨dx, st, vs, h1, h2, h3, h4⟩
/-! heldlen -/
theorem heldL_len {n f : Int} {ks qs : List (Int × Addr × List Int)} (kn : Know n f ks qs) {k : Int × Addr × List Int} (m : k ∈ ks) : (heldL k.2.2 (esOf qs k.1)).length ≤ 20500 := by
  have ll1 := listN_len (rs := k.2.2) "cite"
  have ll2 := listN_len (rs := k.2.2) "back"
  have lr := (kn.th k m).2.1.len
  have les : (esOf qs k.1).length ≤ 500 := by
    unfold esOf
    by_cases h4 : k.2.2.getD 0 0 = 4
    · obtain ⟨c, es, e1, _, _, _, e5⟩ := kn.hd k m h4
      rw [e1]; exact e5
    · rw [kn.no k m h4]; simp
  unfold heldL
  simp only [List.length_append, enumN_len]
  omega
/-! rr2 -/
section
local macro_rules | `(tactic| wtm_at "d") => `(tactic| first | ((with_reducible show Z.XE _ (PySem.Expr.Name "HEAD" _) _ _ _); refine Z.xe_glob (v := L2.V.int 4) (by assumption) (by wtm_at "m") T.c_HEAD.choose_spec ⟨_, rfl⟩ ?_) | ((with_reducible show Z.XE _ (PySem.Expr.Name "BACK" _) _ _ _); refine Z.xe_glob (v := L2.V.str "back") (by assumption) (by wtm_at "m") T.c_BACK.choose_spec ⟨_, rfl⟩ ?_) | ((with_reducible show Z.XE _ (PySem.Expr.Call (PySem.Expr.Name "kind_of" _) (_ :: _) [] _) _ _ _); refine Z.xe_call (by assumption) (Law.ok_kind_of T) (by wtm_at "m") (by omega) ?_) | fail)
/-! is_right_round, of a place whose way is left out -/
def sp_rr2 (K : PySem.W.Frag) : Sp := fun vs H Q _ => ∃ (b a pa : Addr) (bs rs : List Int) (p : Pl), vs = [.ref b, .ref a, .ref pa] ∧ SqT K H b (bs.map V.int) ∧ SqT K H a (rs.map V.int) ∧ (∃ r, SqT K H pa (.str p.w :: .int p.i :: r)) ∧ isThing bs = true ∧ isThing rs = true ∧ RowOk rs ∧ (p.w = ("back" : Str) → hasPl rs p = true) ∧ ∀ H', Kp [] H H' → Q (.bl (rrB bs rs p)) H'
theorem ok_is_right_round2 (T : Txt P w K mg base) : DefOk P w K mg base "is_right_round" ["before", "row", "place"] 2 (sp_rr2 K) := by
  refine DefOk.by T.d_is_right_round sc_is_right_round oc_is_right_round (fun vs H Q E h => ?_) (fun X e1 e2 e3 e4 e5 C H vs Q E h => ?_)
  · obtain ⟨b, a, pa, bs, rs, p, rfl, _⟩ := h; rfl
  · obtain ⟨b, a, pa, bs, rs, p, rfl, hb, hr, hpl, tb, th, ro, hh, q⟩ := h
    have h0 : rrB bs rs p = if p.w = ("back" : Str) then decide (bs.getD 0 0 = 4 ∧ bs.getD 1 0 = rs.getD 1 0 ∧ bs.getD 2 0 = rs.getD 2 0 - 2 ^ p.i.toNat ∧ bs.getD 3 0 < rs.getD 3 0) else true := rfl
    obtain ⟨r, hpa⟩ := id hpl
    wtm_at "go"
    refine xs_asg ?_
    wtm_at "w"
    refine vsl_tup hpa (fun t H1 k1 ht => ?_)
    rw [cut2] at ht
    have hr1 := k1.tup hr
    have hb1 := k1.tup hb
    refine xg_tup C ⟨t, _, rfl, ht, rfl, ?_⟩
    wtm_at "w"
    refine ite_nd (fun h1 => ?_) (fun h1 => ?_)
    · rw [if_neg h1] at h0
      wtm_at "w"
      have := q H1 k1
      rw [h0] at this
      exact this
    · rw [if_pos h1] at h0
      obtain ⟨r4, i0, i1⟩ := hasPl_back (hh h1) h1
      rw [List.length_drop] at i1
      obtain ⟨r6, _⟩ := isThing_hd th r4
      have rl := ro.len
      wtm_at "w"
      refine ⟨b, bs, rfl, hb1, isThing_pos tb, ?_⟩
      wtm_at "w"
      refine ite_nd (fun h2 => ?_) (fun h2 => ?_)
      · wtm_at "w"
        have := q H1 k1
        rw [h0, decide_eq_false (fun z => h2 z.1)] at this
        exact this
      · obtain ⟨b6, _⟩ := isThing_hd tb h2
        wtm_at "w"
        refine xs_asg ?_
        wtm_at "w"
        refine vsl_tup hr1 (fun t2 H2 k2 ht2 => ?_)
        rw [cut14 (by omega)] at ht2
        have hb2 := k2.tup hb1
        have k02 := k1.tr0 k2
        clear k1 k2
        refine xg_tup C ⟨t2, _, rfl, ht2, rfl, ?_⟩
        wtm_at "w"
        refine xs_asg ?_
        wtm_at "w"
        refine vsl_tup hb2 (fun t3 H3 k3 ht3 => ?_)
        rw [cut14 (by omega)] at ht3
        have k03 := k02.tr0 k3
        clear k02 k3
        refine xg_tup C ⟨t3, _, rfl, ht3, rfl, ?_⟩
        wtm_at "w"
        refine vo_shl ⟨i0, by omega, by decide⟩ ?_
        rw [Int.one_mul]
        wtm_at "w"
        have := q H3 k03
        rw [h0] at this
        refine ite_d (fun c1 => ?_) (fun c1 => ?_)
        · wtm_at "w"
          refine ite_d (fun c2 => ?_) (fun c2 => ?_)
          · wtm_at "w"
            have e : decide (bs.getD 3 0 < rs.getD 3 0) = decide (bs.getD 0 0 = 4 ∧ bs.getD 1 0 = rs.getD 1 0 ∧ bs.getD 2 0 = rs.getD 2 0 - 2 ^ p.i.toNat ∧ bs.getD 3 0 < rs.getD 3 0) := by apply decide_eq_decide.mpr; exact ⟨fun z => ⟨h2, c1, c2, z⟩, fun z => z.2.2.2⟩
            rw [e]; exact this
          · rw [decide_eq_false (fun z => c2 z.2.2.1)] at this
            rw [decide_eq_false c2]; exact this
        · rw [decide_eq_false (fun z => c1 z.2.1)] at this
          rw [decide_eq_false c1]; exact this
end
/-! srtk -/
/-! sorted(xs, key=x.m): whole numbers by rows that a method gives -/
section
open PySem.Spec
set_option autoImplicit true
variable {X : Cx} {pins : List (Addr × Obj)} {σ : L2.St} {H : Hp} {s : Shared} {CX : CXT} {kk : Nat} {g : Addr} {sp : Sp} {A : Around}
/-- x.m as a value -/
theorem pe_bound {o : Expr} {m : Str} {pos : Pos} {te : TE} {Cl : Addr} (he : PE X o te) (c : Cls X.K Cl) (k : BMeth X.K Cl m g) (hb : attributeBase o m X.env (eval o X.env) = eval o X.env) :
    PE X (.Attribute o m pos) (fun σ H Q => te σ H fun y H1 => ∃ a dx fs, y = .ref a ∧ H1 a = some (.ins Cl dx fs) ∧ fs.lookup m = none ∧ ∀ p, H1 p = none → Q (.ref p) (upd H1 p (.met g a))) := by
  refine ⟨fun pins s σ H Q I h => ?_⟩
  refine attr_of hb (thn (he.run pins s σ H _ I h) fun u s1 ⟨x, H1, I1, rx, a, dx, fs, ex, ea, l, q⟩ => ?_)
  subst ex
  obtain rfl : u = Value.ref a := rx
  exact getbound_ok I1 ea c k l fun p s' hp I' => ⟨.ref p, _, I', rfl, q p hp⟩
/-- the call of a bound method that changes nothing -/
theorem sb_turn {q z : Addr} {n : Int} {x : Value} {r : Addr} {Rs : Shared → Prop} (hA : A.frames = some X.stack) (hr : Room kk A) (Fn : FnR X.prog X.w X.K X.mg X.base CX0 kk g sp) (I : Inv X pins σ H s) (hq : H q = some (.met g z)) (rx : RelV (.int n) x)
    (h : sp [.ref z, .int n] H (fun v H' => v = .ref r ∧ H' = H) E0) (hR : ∀ s', Inv X pins σ H s' → (∀ b o, FbM.Rec X pins b → H b = none → s.heap.get? b = some o → s'.heap.get? b = some o) → Rs s') :
    wpAny (model X.prog X.w) A (call (.ref q) [x]) (fun v s' => v = .ref r ∧ Rs s') (fun _ _ => False) s := by
  have hq' : s.heap.get? q = some (PySem.W.methodObj (.ref g) (.ref z)) := I.hok q _ hq
  have e0 := I.env0
  have e1 : Env0 X.prog X.w X.K X.mg X.base A X.stack s H := ⟨hA, e0.mod, e0.bs, e0.bsz, e0.funs, e0.frf, e0.hok, e0.bare⟩
  refine wpAny_call (PySem.W.method_call hq' (codeAny_mono (Fn A X.stack _ H [.ref z, x] [.ref z, .int n] _ E0 hr e1 (.cons rfl (.cons rx .nil)) h) fun rr s2 hrr => ?_))
  cases rr with
  | error e => exact False.elim hrr
  | ok fl =>
    cases fl with
    | next => exact False.elim hrr
    | brk => exact False.elim hrr
    | cont => exact False.elim hrr
    | ret v =>
      obtain ⟨v', H', os, bare, un, hok, rv', ev, eH⟩ := (show CE X.stack X.prog X.w H _ _ v s2 from hrr)
      subst ev
      have I2 : Inv X pins σ H s2 := by
        have z := I.call' os un hok bare (fun b y => absurd y List.not_mem_nil)
        rw [eH] at z
        exact z
      exact ⟨rv', hR s2 I2 fun b o rb ub eb => un.keep _ _ eb ub rb.fr List.not_mem_nil⟩
/-- what stands while the keys are made -/
def SbI (X : Cx) (pins : List (Addr × Obj)) (σ : L2.St) (H : Hp) (aS kS : Addr) (e1 : Nat) (ks : List Value) (s : Shared) : Prop := Inv X pins σ H s ∧ s.heap.get? aS = some (PyProof.Rows.seqObj "list" #[] e1) ∧ ∃ (kA : Array Value) (e : Nat), s.heap.get? kS = some (PyProof.Rows.seqObj "list" kA e) ∧ kA.toList = ks
theorem sb_rest {P : PySem.Fin → Shared → Prop} {E : Value → Shared → Prop} {aS kS q z : Addr} {e1 : Nat} {its : List Value} {ns : List Int} {ra : Int → Addr} {rw' : Int → List Int} (hh : A.frames = some X.stack) (hr : Room kk A) (hu : A.units + 1 < cLine) (Fn : FnR X.prog X.w X.K X.mg X.base CX0 kk g sp)
    (rA : FbM.Rec X pins aS) (rK : FbM.Rec X pins kS) (uA : H aS = none) (uK : H kS = none) (hka : kS ≠ aS) (rv : Vals (ns.map V.int) its) (hz : its.length ≤ sizeLine) (hq : H q = some (.met g z))
    (hrw : ∀ n ∈ ns, SqT X.K H (ra n) ((rw' n).map V.int) ∧ rw' n ≠ []) (hsp : ∀ n ∈ ns, sp [.ref z, .int n] H (fun v H' => v = .ref (ra n) ∧ H' = H) E0)
    (I0 : SbI X pins σ H aS kS e1 [] s)
    (h : ∀ (s2 : Shared) (h' : Heap) (tk : Nat) (c : Nat) (out : List Value), Inv X pins σ H s2 → (∀ b o, b ≠ aS → b ≠ kS → s2.heap.get? b = some o → h'.get? b = some o) → h'.get? aS = some (PyProof.Rows.seqObj "list" out.toArray c) → W.EachIs (fun v (n : Int) => RelV (.int n) v) out (ns.mergeSort (W.dataLe false fun n => .tuple ((rw' n).map PyData.int))) → P (.done (.ret .none)) { s2 with heap := h', toks := tk }) :
    wpAny (model X.prog X.w) A (PyProof.Rows.ksk_rest aS (.ref q) false its.toArray e1 (.ref kS)) P E s := by
  have lits : its.length = ns.length := by rw [← rv.length, List.length_map]
  unfold PyProof.Rows.ksk_rest
  refine wpAny_bind (wpAny_rule ?_)
  first
    | rw [List.forIn_toArray]
    | (rw [← Array.forIn_toList]; simp only [List.toList_toArray])
    | rw [← Array.forIn_toList]
  refine wpAny_bind (PyProof.Rows.ksk_fold (fun i s' => SbI X pins σ H aS kS e1 ((ns.take i).map fun n => Value.ref (ra n)) s') its 0 s (by rw [List.take_zero]; exact I0) ?step ?done)
  case step =>
    rintro j x s' hx ⟨I, na, kA, e, nk, hk⟩
    simp only [Nat.zero_add] at hk ⊢
    have hj : j < its.length := (List.getElem?_eq_some_iff.mp hx).1
    have hn : ns[j]? = some (ns[j]'(by omega)) := List.getElem?_eq_getElem (by omega)
    generalize ns[j]'(by omega) = n at hn
    have mn := List.mem_of_getElem? hn
    have rx : RelV (.int n) x := by
      obtain ⟨u, hu', r⟩ := rv.get (i := j) (x := V.int n) (by rw [List.getElem?_map, hn]; rfl)
      rw [hx] at hu'
      cases hu'
      exact r
    have hz2 : kA.size ≤ its.length := by
      have h1 := congrArg List.length hk
      rw [Array.length_toList, List.length_map, List.length_take] at h1
      omega
    refine wpAny_bind (wpAny_attempt (wpAny_mono (sb_turn (Rs := fun s2 => Inv X pins σ H s2 ∧ s2.heap.get? kS = some (PyProof.Rows.seqObj "list" kA e) ∧ s2.heap.get? aS = some (PyProof.Rows.seqObj "list" #[] e1)) hh hr Fn I hq rx (hsp n mn) (fun s2 I2 k2 => ⟨I2, k2 _ _ rK uK nk, k2 _ _ rA uA na⟩)) (fun v s'' he => ?_) fun _ _ hF => hF.elim))
    obtain ⟨rfl, I2, nk2, na2⟩ := he
    try dsimp only
    have s1 := Heap.SameBut.update s''.heap kS (Obj.mapSeq (·.push (Value.ref (ra n))))
    obtain ⟨c2, hc2⟩ : ∃ c2, (s''.heap.update kS (Obj.mapSeq (·.push (Value.ref (ra n))))).get? kS = some (PyProof.Rows.seqObj "list" (kA.push (Value.ref (ra n))) c2) := ⟨_, PyProof.Rows.get?_update_seq nk2 (·.push (Value.ref (ra n)))⟩
    have ek : ns.take (j + 1) = ns.take j ++ [n] := by rw [List.take_add_one, hn]; simp
    refine wpAny_bind (PyProof.Rows.listUpdate_at nk2 rfl ?_ (Nat.le_trans hz2 hz) (Nat.le_trans (Nat.le_of_eq (Array.size_push ..)) (Nat.succ_le_succ (Nat.le_trans hz2 hz))))
    refine wpAny_pure ⟨rfl, rK.turn (t' := s''.toks) I2 uK (fun c o hc e => (s1.2 c hc).trans e), (s1.2 aS hka.symm).trans na2, _, _, hc2, ?_⟩
    rw [ek, List.map_append, ← hk]
    simp
  case done =>
    rintro s' ⟨I, na, kA, e, nk, hk⟩
    rw [Nat.zero_add, List.take_of_length_le (by omega)] at hk
    refine wpAny_bind (PyProof.Rows.listItems_at nk rfl ?_)
    obtain ⟨G, g1, g2⟩ := restrict s'.heap fun b => decide (b ≠ kS)
    have gs : ∀ b o, G.get? b = some o → s'.heap.get? b = some o := fun b o e => by
      by_cases hb : b = kS
      · rw [hb, g2 kS (decide_eq_false fun z => z rfl)] at e
        cases e
      · rw [← g1 b (decide_eq_true hb)]
        exact e
    have hkz : W.EachIs (fun v d => ∃ as, Reads s'.heap v d as) kA.toList (ns.map fun n => PyData.tuple ((rw' n).map PyData.int)) := by
      rw [hk]
      clear hk hsp
      have : ∀ l : List Int, (∀ n ∈ l, n ∈ ns) → W.EachIs (fun v d => ∃ as, Reads s'.heap v d as) (l.map fun n => Value.ref (ra n)) (l.map fun n => PyData.tuple ((rw' n).map PyData.int)) := by
        intro l
        induction l with
        | nil => intro _; exact .nil
        | cons n l ih =>
          intro hl
          exact .cons (Dp.reads I _ _ _ (dp_T (hrw n (hl n List.mem_cons_self)).1) rfl) (ih fun m hm => hl m (List.mem_cons_of_mem _ hm))
      exact this ns fun _ m => m
    have hsz : kA.size = its.length := by
      have h1 := congrArg List.length hk
      rw [Array.length_toList, List.length_map] at h1
      omega
    have alk : ∀ xs ys : List Int, W.alikeAll (xs.map PyData.int) (ys.map PyData.int) = true := by
      intro xs
      induction xs with
      | nil => intro ys; cases ys <;> simp [W.alikeAll]
      | cons x xs ih =>
        intro ys
        cases ys with
        | nil => simp [W.alikeAll]
        | cons y ys =>
          rw [List.map_cons, List.map_cons, W.alikeAll, ih ys]
          simp [W.alike]
    have hal : W.AllAlike (ns.map fun n => PyData.tuple ((rw' n).map PyData.int)) := W.AllAlike.of fun x y => by rw [W.alike]; exact alk _ _
    have hk2 : W.Sortable (ns.map fun n => PyData.tuple ((rw' n).map PyData.int)) := .inl fun d hd => by
      obtain ⟨n, mn, rfl⟩ := List.mem_map.mp hd
      have := (hrw n mn).2
      cases er : rw' n with
      | nil => exact absurd er this
      | cons x r => exact ⟨_, _, rfl⟩
    have hdp : ∀ d, d ∈ (ns.map fun n => PyData.tuple ((rw' n).map PyData.int)) → A.units + d.depth < cLine := fun d hd => by
      obtain ⟨n, mn, rfl⟩ := List.mem_map.mp hd
      have : ∀ l : List Int, PyData.depthAll (l.map PyData.int) = 0 := fun l => by
        induction l with
        | nil => rfl
        | cons x l ih => rw [List.map_cons, PyData.depthAll, ih]; rfl
      rw [PyData.depth, this]
      omega
    refine W.keyH_end (κ := W.dataKind s'.heap (ns.map fun n => PyData.tuple ((rw' n).map PyData.int))) (h₁ := G) (s := s') (fun b o _ e => gs b o e) (g2 kS (decide_eq_false fun z => z rfl)) nk na hka (W.SortsAt.data hkz hal hk2 hdp) hsz hz fun h3 tk3 c k3 n3 => ?_
    refine h s' h3 tk3 c _ I (fun b o hb hb2 e => k3 b o hb (by rw [g1 b (decide_eq_true hb2)]; exact e)) n3 ?_
    refine W.keyedOut_each (R := fun v (n : Int) => RelV (.int n) v) (rev := false) (fun n => PyData.tuple ((rw' n).map PyData.int)) ⟨s'.heap, kA.toList, hal, rfl, hkz⟩ ?_
    have : ∀ (l : List Int) (us : List Value), Vals (l.map V.int) us → W.EachIs (fun v (n : Int) => RelV (.int n) v) us l := by
      intro l
      induction l with
      | nil => intro us r; cases r; exact .nil
      | cons n l ih =>
        intro us r
        cases r with
        | cons r1 r2 => exact .cons r1 (ih _ r2)
    exact this ns its rv
/-- sorted(xs, key=x.m) -/
def rSB (X : Cx) (g : Addr) (sp : Sp) : List V → List V → Hp → VK → Prop := fun vs zs H Q => ∃ (a q z : Addr) (ns : List Int) (ra : Int → Addr) (rw' : Int → List Int), vs = [.ref a] ∧ zs = [.ref q] ∧ SqL X.K H a (ns.map V.int) ∧ H q = some (.met g z) ∧ (∀ n ∈ ns, SqT X.K H (ra n) ((rw' n).map V.int) ∧ rw' n ≠ []) ∧ (∀ n ∈ ns, sp [.ref z, .int n] H (fun v H' => v = .ref (ra n) ∧ H' = H) E0) ∧
  ∀ p, H p = none → Q (.ref p) (upd H p (.lst ((ns.mergeSort (W.dataLe false fun n => .tuple ((rw' n).map PyData.int))).map V.int)))
theorem vals_each : ∀ {ns : List Int} {us : List Value}, W.EachIs (fun v (n : Int) => RelV (.int n) v) us ns → Vals (ns.map V.int) us
  | _, _, .nil => .nil
  | _, _, .cons r t => .cons r (vals_each t)
theorem cr_sortB (hr : Room kk X.A.in1.in1) (hu : X.A.units + 3 < cLine) (Fn : FnR X.prog X.w X.K X.mg X.base CX0 kk g sp) : CallRK X (.builtin "sorted") [Str.ofString "key"] (rSB X g sp) := by
  intro pins s σ H vs zs us ws Q I r rz h
  obtain ⟨a, q, z, ns, ra, rw', rfl, rfl, hs, hq, hrw, hsp, fin⟩ := h
  obtain rfl := Vals.ref1 r
  obtain ⟨w1, rfl, e1⟩ := vals1 rz
  obtain rfl : w1 = Value.ref q := e1
  obtain ⟨its, rv, hl, hz⟩ := I.list hs
  have lits : its.length = ns.length := by rw [← rv.length, List.length_map]
  have hz' : its.length ≤ sizeLine := by rw [← rv.length]; exact hz
  show wpAny _ _ (call (.builtin "sorted") [.ref a] [(Str.ofString "key", .ref q)]) _ _ _
  refine W.sorted_of_sort hl.isList hz' (PyProof.Rows.ksk_s1 _ _) (fun _ => PyProof.Rows.ksk_l1 _ _) fun E' => ?_
  rw [PyProof.Rows.ksk_t1]
  have ho := W.copyHeap_at s.heap its
  have old : ∀ b o, s.heap.get? b = some o → (W.sortingHeap (W.copyHeap s.heap its) (s.heap.objs.size + 1) its).get? b = some o := fun b o e => W.sorting_copy_old e
  have csz : (W.copyHeap s.heap its).objs.size = s.heap.objs.size + 2 := by
    unfold W.copyHeap
    rw [PyProof.Rows.size_push', Heap.size_update, PyProof.Rows.size_push']
  unfold PyProof.Rows.ksk_tree
  refine wpAny_bind (PyProof.Rows.listItems_at ho rfl ?_)
  refine wpAny_bind (PyProof.Rows.listUpdate_at ho rfl ?_ (by rw [List.size_toArray]; exact hz') (Nat.zero_le _))
  obtain ⟨e1, ho1⟩ : ∃ e1, ((W.copyHeap s.heap its).update (s.heap.objs.size + 1) (Obj.mapSeq fun _ => (#[] : Array Value))).get? (s.heap.objs.size + 1) = some (PyProof.Rows.seqObj "list" #[] e1) := ⟨_, PyProof.Rows.get?_update_seq ho fun _ => #[]⟩
  refine wpAny_bind (PyProof.Rows.seqEpoch_at ho1 rfl ?_)
  refine wpAny_bind (wpAny_newTuple ?_ (by show its.length ≤ _; exact hz'))
  refine wpAny_bind (wpAny_newList ?_ (Nat.zero_le _))
  refine wpAny_holding ?_
  have ge : s.heap.objs.size ≤ s.heap.objs.size + 1 := Nat.le_succ _
  have eK : (((W.copyHeap s.heap its).update (s.heap.objs.size + 1) (Obj.mapSeq fun _ => (#[] : Array Value))).push (PyProof.Rows.seqObj "tuple" its.toArray 0)).objs.size = s.heap.objs.size + 3 := by
    rw [PyProof.Rows.size_push', Heap.size_update, csz]
  have I0 : Inv X pins σ H { s with heap := W.sortingHeap (W.copyHeap s.heap its) (s.heap.objs.size + 1) its } := I.kept (t' := s.toks) old
  have rA : FbM.Rec X pins (s.heap.objs.size + 1) := FbM.rec_new I ge
  have rK : FbM.Rec X pins (s.heap.objs.size + 3) := FbM.rec_new I (by omega)
  have uA : H (s.heap.objs.size + 1) = none := I.hok.fresh ge
  have uK : H (s.heap.objs.size + 3) = none := I.hok.fresh (by omega)
  have nk : (W.sortingHeap (W.copyHeap s.heap its) (s.heap.objs.size + 1) its).get? (s.heap.objs.size + 3) = some (PyProof.Rows.seqObj "list" #[] 0) := by
    rw [← eK]; exact Heap.get?_push_size _ rfl
  have na : (W.sortingHeap (W.copyHeap s.heap its) (s.heap.objs.size + 1) its).get? (s.heap.objs.size + 1) = some (PyProof.Rows.seqObj "list" #[] e1) :=
    Heap.get?_push_of_some _ (Heap.get?_push_of_some _ ho1)
  show wpAny (model X.prog X.w) X.A.in1.in1 (PyProof.Rows.ksk_rest (s.heap.objs.size + 1) (.ref q) false its.toArray e1 (.ref _)) _ _ { s with heap := W.sortingHeap (W.copyHeap s.heap its) (s.heap.objs.size + 1) its }
  have hne : (((W.copyHeap s.heap its).update (s.heap.objs.size + 1) (Obj.mapSeq fun _ => (#[] : Array Value))).push (PyProof.Rows.seqObj "tuple" its.toArray 0)).objs.size ≠ s.heap.objs.size + 1 := by rw [eK]; omega
  rw [← eK] at rK uK nk
  refine sb_rest (A := X.A.in1.in1) I.ok.frames hr (by show X.A.units + 1 + 1 + 1 < _; omega) Fn rA rK uA uK hne rv hz' hq hrw hsp ⟨I0, na, #[], 0, nk, rfl⟩ (fun s2 h' tk c out I2 k2 n2 eo => ⟨rfl, ?_⟩)
  have hlen : ((ns.mergeSort (W.dataLe false fun n => .tuple ((rw' n).map PyData.int))).map V.int).length ≤ sizeLine := by
    rw [List.length_map, List.length_mergeSort, ← lits]; exact hz'
  have I3 : Inv X pins σ (upd H (s.heap.objs.size + 1) (.lst ((ns.mergeSort (W.dataLe false fun n => .tuple ((rw' n).map PyData.int))).map V.int))) { s2 with heap := h', toks := tk } := by
    rw [eK] at rK uK k2
    have nit : ∀ b u, H b = some u → b ≠ s.heap.objs.size + 1 ∧ b ≠ s.heap.objs.size + 3 := fun b u e => by
      refine ⟨fun z => ?_, fun z => ?_⟩
      · rw [z, uA] at e; cases e
      · rw [z, uK] at e; cases e
    have nch : ∀ {b : Addr}, b ∉ [s.heap.objs.size + 1, s.heap.objs.size + 3] → b ≠ s.heap.objs.size + 1 ∧ b ≠ s.heap.objs.size + 3 := fun {b} hb => ⟨fun z => hb (by rw [z]; simp), fun z => hb (by rw [z]; simp)⟩
    refine I2.call' (s' := { s2 with heap := h', toks := tk }) (ch := [s.heap.objs.size + 1, s.heap.objs.size + 3]) rfl ⟨fun b o e _ _ hx => k2 b o (nch hx).1 (nch hx).2 e, fun b o e _ _ hx => ⟨o.slots, k2 b o (nch hx).1 (nch hx).2 e⟩, fun b o _ n hx => ?_, fun b o e hx => ⟨o, k2 b o (nch hx).1 (nch hx).2 e⟩, fun b xs e => ?_, fun b o u e => ?_, fun b ps e => ⟨#[], ?_⟩⟩ (fun b u e => ?_) I2.bare (fun b hb => ?_)
    · rw [upd_ne (nch hx).1]; exact n
    · rw [upd_ne (nit _ _ e).1]; exact e
    · rw [upd_ne (nit _ _ e).1]; exact e
    · rw [upd_ne (nit _ _ e).1, e]; simp
    · by_cases hb : b = s.heap.objs.size + 1
      · subst hb
        rw [upd_same] at e
        cases e
        exact ⟨hlen, out, c, vals_each eo, n2⟩
      · rw [upd_ne hb] at e
        refine (I2.hok b u e).stay (fun c v hc q => ?_) (fun c q => by rw [upd_ne (nit _ _ q).1]; exact q) fun c xs q => by rw [upd_ne (nit _ _ q).1]; exact q
        rcases hc with z | z
        · rw [z] at q ⊢; exact k2 b v (nit b u e).1 (nit b u e).2 q
        · exact k2 c v (nit c _ z).1 (nit c _ z).2 q
    · have hr' : FbM.Rec X pins b := by
        simp only [List.mem_cons, List.not_mem_nil, or_false] at hb
        rcases hb with rfl | rfl
        · exact rA
        · exact rK
      exact ⟨.inr hr'.ge, hr'.nl, hr'.ce, hr'.pn⟩
  exact ⟨.ref _, _, I3, rfl, fin _ uA⟩
end
section
variable {X : Cx} {σ : St} {H : Hp} {Q : VK} {N Vs Ls G : List Str} {k k' : Nat} {sc : Scope} {e o : Expr} {pos p1 ap kp : Pos} {m : Str} {ps : List Str} {sp : Sp} {Cl : Addr}
/-- sorted(xs, key=x.m) -/
theorem xe_sortB (C : Ctx X sc N Vs Ls G k) (F : MetOk X.prog X.w X.K X.mg X.base Cl m ps k' sp) (bm : ∀ g, Meth X.K Cl m g → BMeth X.K Cl m g) (cl : Cls X.K Cl) (hk : k' < k) (hg : Mem G "sorted") (hm : X.mg "sorted" = none) (hv : bootBuiltins "sorted" = some (.builtin "sorted"))
    (h : XE X e σ H fun x H1 => ∃ a ns, x = .ref a ∧ SqL X.K H1 a (List.map V.int ns) ∧ XE X o σ H1 fun y H2 => ∃ (z dx : Addr) (fs : List (Str × V)) (ra : Int → Addr) (rw' : Int → List Int), y = .ref z ∧ H2 z = some (.ins Cl dx fs) ∧ List.lookup m fs = none ∧ ∀ H3, Kp [] H2 H3 → SqL X.K H3 a (ns.map V.int) ∧ (∀ n ∈ ns, SqT X.K H3 (ra n) ((rw' n).map V.int) ∧ rw' n ≠ []) ∧ (∀ n ∈ ns, sp [.ref z, .int n] H3 (fun v H' => v = .ref (ra n) ∧ H' = H3) E0) ∧
      ∀ p H4, Kp [] H3 H4 → H3 p = none → H4 p = some (.lst ((ns.mergeSort (PySem.W.dataLe false fun n => .tuple ((rw' n).map PyData.int))).map V.int)) → Q (.ref p) H4)
    (hb : attributeBase o m X.env (eval o X.env) = eval o X.env := by rfl)
    (he : backTo pos (starEach [e] X.env) = (false, eval e X.env) :: backTo pos (starEach [] X.env) := by rfl) (hpl : (backTo pos (starEach [e] X.env)).any (·.1) = false := by rfl)
    (hall : (backToKw pos (keywordEach [⟨some "key", .Attribute o m ap, kp⟩] X.env)).all (·.1.isSome) = true := by rfl) (hnone : (backToKw pos (keywordEach [⟨some "key", .Attribute o m ap, kp⟩] X.env)).any (·.1.isNone) = false := by rfl)
    (hks : (backToKw pos (keywordEach [⟨some "key", .Attribute o m ap, kp⟩] X.env)).filterMap (·.1) = [Str.ofString "key"] := by rfl) (hs : starEach [e] X.env = (false, eval e X.env) :: starEach [] X.env := by rfl) : XE X (.Call (.Name "sorted" p1) [e] [⟨some "key", .Attribute o m ap, kp⟩] pos) σ H Q := by
  obtain ⟨g, fd, F1, M, b⟩ := F.ex
  have Fn := F1.raw b .nil
  have rm := C.room
  refine ⟨_, pe_callBK (cr_sortB (kk := k') ⟨rm.hd, by have := rm.dp; show X.A.depth + 3 * k' + 5 < _; omega, by have := rm.un; show X.A.units + 1 + 1 + 16 * k' + 200 < _; omega⟩ (by have := rm.un; omega) Fn) (C.gl hg) hm hv XA.pa (pk_cons (pe_bound XE.pe cl (bm g M) hb) pk_nil) (by decide) (by decide) he hpl hall hnone hks, ?_⟩
  refine xa_cons (hs := hs) (XE.mono h fun x H1 ⟨a, ns, ex, ha, q⟩ => xa_nil ?_)
  subst ex
  refine XE.mono q fun y H2 ⟨z, dx, fs, ra, rw', ey, hz, hl, q⟩ => ?_
  subst ey
  refine ⟨z, dx, fs, rfl, hz, hl, fun p hp => ?_⟩
  have kk : Kp [] H2 (upd H2 p (.met g z)) := Kp.new hp
  obtain ⟨q1, q2, q3, q4⟩ := q _ kk
  refine ⟨a, p, z, ns, ra, rw', rfl, rfl, q1, upd_same, q2, q3, fun p4 hp4 => ?_⟩
  exact q4 p4 _ (Kp.new hp4) hp4 upd_same
end
/-! dupd -/
/-! d.update(e): no key of e is in d -/
section
open PySem.Spec
set_option autoImplicit true
theorem stored_new {K : Type} [DecidableEq K] {kvs : List (K × Value)} {k : K} {v : Value} (h : k ∉ kvs.map (·.1)) : stored kvs k v = kvs ++ [(k, v)] := by
  unfold stored
  rw [if_neg]
  rw [List.any_eq_true]
  rintro ⟨x, mx, e⟩
  exact h (List.mem_map.mpr ⟨x, mx, of_decide_eq_true e⟩)
theorem merged_new {K : Type} [DecidableEq K] : ∀ (more kvs : List (K × Value)), (more.map (·.1)).Nodup → (∀ x ∈ more, x.1 ∉ kvs.map (·.1)) → merged kvs more = kvs ++ more
  | [], kvs, _, _ => by unfold merged; simp
  | x :: r, kvs, nd, h => by
    rw [List.map_cons, List.nodup_cons] at nd
    have e : merged kvs (x :: r) = merged (stored kvs x.1 x.2) r := rfl
    rw [e, stored_new (h x List.mem_cons_self), merged_new r _ nd.2 (fun y my => ?_), List.append_assoc]; rfl
    rw [List.map_append, List.mem_append]
    rintro (m | m)
    · exact h y (List.mem_cons_of_mem _ my) m
    · have : y.1 = x.1 := by simpa using m
      exact nd.1 (by rw [← this]; exact List.mem_map_of_mem my)
theorem kv_app {κ : Type} : ∀ {a c : List (κ × V)} {b d : List (κ × Value)}, KV a b → KV c d → KV (a ++ c) (b ++ d)
  | _, _, _, _, .nil, h => h
  | _, _, _, _, .cons r t, h => .cons r (kv_app t h)
theorem kv_keys {κ : Type} : ∀ {a : List (κ × V)} {b : List (κ × Value)}, KV a b → a.map (·.1) = b.map (·.1)
  | _, _, .nil => rfl
  | _, _, .cons r t => by rw [List.map_cons, List.map_cons, r.1, kv_keys t]
section
variable {X : Cx} {pins : List (Addr × Obj)} {σ : L2.St} {H : Hp} {s : Shared} {a b : Addr} {kvs more : List (Key × V)} {E : Value → Shared → Prop}
theorem d_update {Q : Value → Shared → Prop} (I : Inv X pins σ H s) (e : H a = some (.dK kvs)) (e2 : H b = some (.dK more)) (ne : a ≠ b) (hz : kvs.length + more.length ≤ sizeLine) (dj : ∀ x ∈ more, x.1 ∉ kvs.map (·.1)) (h : ∀ s', Inv X pins σ (upd H a (.dK (kvs ++ more))) s' → Q .none s') :
    wpAny (model X.prog X.w) X.A (call (.builtin "dict.update") [.ref a, .ref b]) Q E s := by
  obtain ⟨z, lo, vs, rk, hd⟩ := (show ObjOk X.prog X.w H s.heap a (.dK kvs) from I.hok a _ e)
  obtain ⟨z2, lo2, vs2, rk2, hd2⟩ := (show ObjOk X.prog X.w H s.heap b (.dK more) from I.hok b _ e2)
  have l1 := rk.length
  have l2 := rk2.length
  have nd2 : (vs2.map (·.1)).Nodup := by
    obtain ⟨_, _, _, _, _, _, _, _, n⟩ := hd2
    exact n
  refine call_meetsIn PySem.F.slot_dict_update hd.typeIs PySem.F.entry_dict_update (PySem.F.args_dict_update_2 _ _) (meets_dict_update (mixKind X.prog X.w) a b ne lo2) ⟨vs, vs2, hd, hd2, by rw [← l1, ← l2]; exact hz, fun h' hm _ hs => h _ ?_⟩
  have em : merged vs vs2 = vs ++ vs2 := merged_new vs2 vs nd2 (fun x mx => by
    rw [← kv_keys rk]
    have : x.1 ∈ more.map (·.1) := by rw [kv_keys rk2]; exact List.mem_map_of_mem mx
    obtain ⟨y, my, ey⟩ := List.mem_map.mp this
    rw [← ey]; exact dj y my)
  rw [em] at hm
  refine I.write (t' := s.toks) (by rw [e]; trivial) (.inl rfl) (fun c u hc q => (hs.2 c hc).trans q) ?_ ⟨by rw [List.length_append]; exact hz, lo, vs ++ vs2, kv_app rk rk2, hm⟩
  obtain ⟨o, _, _, ho, _⟩ := hm
  exact ⟨o, ho⟩
def rDUpd : V → List V → Hp → VK → Prop := fun x vs H Q => ∃ (a b : Addr) (kvs more : List (Key × V)), x = .ref a ∧ vs = [.ref b] ∧ H a = some (.dK kvs) ∧ H b = some (.dK more) ∧ a ≠ b ∧ kvs.length + more.length ≤ sizeLine ∧ (∀ x ∈ more, x.1 ∉ kvs.map (·.1)) ∧ Q .non (upd H a (.dK (kvs ++ more)))
theorem mt_dupd : MtR X "dict.update" rDUpd := by
  intro pins s σ H x vs v us Q I rx rv h
  obtain ⟨a, b, kvs, more, rfl, rfl, e, e2, ne, hz, dj, q⟩ := h
  cases rx
  obtain ⟨u, rfl, ru⟩ := rv.one
  cases ru
  exact d_update I e e2 ne hz dj fun s' I' => ⟨.non, _, I', rfl, q⟩
theorem xe_dupdate {σ : L2.St} {H : Hp} {Q : VK} {a b : Expr} {pos apos : Pos} (h : XE X a σ H fun y H1 => ∃ l kvs, y = .ref l ∧ H1 l = some (.dK kvs) ∧ XE X b σ H1 fun z H2 => H2 l = some (.dK kvs) ∧ ∃ p more, z = .ref p ∧ H2 p = some (.dK more) ∧ l ≠ p ∧ kvs.length + more.length ≤ sizeLine ∧ (∀ x ∈ more, x.1 ∉ kvs.map (·.1)) ∧ ∀ H', Kp [l] H2 H' → H' l = some (.dK (kvs ++ more)) → Q .non H')
    (hbase : attributeBase a "update" X.env (eval a X.env) = eval a X.env := by rfl) (hs : starEach (b :: []) X.env = (false, eval b X.env) :: starEach [] X.env := by rfl) (hline : (apos.endLine == pos.line) = true := by rfl)
    (hfew : ((backTo pos (starEach [b] X.env)).all (fun x => !x.1) && (backToKw pos (keywordEach [] X.env)).all (fun x => x.1.isSome) && decide (([b] : List Expr).length + ([] : List Keyword).length + (if ([] : List Keyword).isEmpty then 0 else 1) < 30)) = true := by rfl)
    : XE X (.Call (.Attribute a "update" apos) [b] [] pos) σ H Q := by
  refine ⟨_, pe_bm PySem.F.plainAttrs_dict PySem.F.slot_dict_update PySem.F.type_dict_update mt_dupd XE.pe XA.pa hbase hfew hline hs, ?_⟩
  refine XE.mono h fun y H1 ⟨l, kvs, e, hl, q⟩ => ?_
  subst e
  refine ⟨.inr (.inr (.inl ⟨rfl, .inl ⟨kvs, hl⟩⟩)), xa_cons (hs := hs) (XE.mono q fun z H2 ⟨hl2, p, more, ez, hp, ne, hz, dj, q⟩ => xa_nil ?_)⟩
  exact ⟨l, p, kvs, more, rfl, by rw [ez], hl2, hp, ne, hz, dj, q _ (Kp.set hl2 rfl) upd_same⟩
end
end
/-! linksTo -/
section
local macro_rules | `(tactic| wtm_at "d") => `(tactic| first | ((with_reducible show Z.XE _ (PySem.Expr.Call (PySem.Expr.Name "is_right_round" _) (_ :: _) [] _) _ _ _); refine Z.xe_call (by assumption) (Law.ok_is_right_round2 T) (by wtm_at "m") (by omega) ?_) | fail)
-- use is_right_round ok_is_right_round2
/-! the links to a row -/
def linkB (ks : List (Int × Addr × List Int)) (row : List Int) (x : Int × Str × Int) : Bool := match lkA ks x.1 with
  | none => false
  | some b => rrB b.2 row ⟨x.2.1, x.2.2, []⟩
def linksP (ks qs : List (Int × Addr × List Int)) (d : Int) : List (Int × Str × Int) := match lkA ks d with
  | none => []
  | some z => (heldL z.2 (esOf qs d)).filter (linkB ks z.2)
def sp_rowWith (K : PySem.W.Frag) (CL CM : Addr) : Sp := fun vs H Q _ => ∃ (a mx dR dE dx : Addr) (d : Int) (z : Addr × List Int) (ks : List (Int × Addr × List Int)), vs = [.ref a, .int d] ∧ H a = some (.ins CL dx (libF mx dR dE)) ∧ DkAt H dR (kvR ks) ∧ lkA ks d = some z ∧ Q (.ref z.1) H
theorem DkAt.get {H : Hp} {dR : Addr} {ks : List (Int × Addr × List Int)} {d : Int} {z : Addr × List Int} (h : DkAt H dR (kvR ks)) (e : lkA ks d = some z) : DGet H dR (.int d) (some (.ref z.1)) := by
  have ev : valV (kvR ks) (.inl d) = some (.ref z.1) := by rw [valV_kvR, e]; rfl
  exact .inl ⟨_, .inl d, h, rfl, ev.symm⟩
theorem ok__row_with (T : Txt P w K mg base) : MetOk P w K mg base T.C_Library "_row_with" ["self", "mark"] 1 (sp_rowWith K T.C_Library T.C_Mixing) := by
  obtain ⟨fn, fd, M, F, bi⟩ := T.m_Library__row_with
  refine ⟨fn, fd, fnOk_by F sc_Library__row_with oc_Library__row_with (fun vs H Q E h => ?_) (fun X e1 e2 e3 e4 e5 C H vs Q E h => ?_), M, bi⟩
  · obtain ⟨a, mx, dR, dE, dx, d, z, ks, rfl, _⟩ := h; rfl
  · obtain ⟨a, mx, dR, dE, dx, d, z, ks, rfl, ha, hR, hz, q⟩ := h
    wtm_at "go"
    wtm_at "w"
    refine xe_fld ?_
    wtm_at "w"
    refine ⟨a, _, dx, _, _, rfl, ha, T.cl_Library, T.na_Library__rows, lib_r mx dR dE, ?_⟩
    wtm_at "w"
    exact vx_dict C (hR.get hz) q
theorem enumN_in {w w' : Str} {l : List Int} {x : Int × Str × Int} (h : x ∈ enumN w l) : x.2.1 = w ∧ 0 ≤ x.2.2 ∧ x.2.2.toNat < l.length ∧ x.1 = l.getD x.2.2.toNat 0 := by
  unfold enumN at h
  obtain ⟨i, hi, rfl⟩ := List.mem_map.mp h
  have := List.mem_range.mp hi
  exact ⟨rfl, by show (0 : Int) ≤ (i : Int); omega, by show (i : Int).toNat < _; omega, by show l.getD i 0 = l.getD (i : Int).toNat 0; rw [Int.toNat_natCast]⟩
theorem heldL_pl {row es : List Int} {x : Int × Str × Int} (h : x ∈ heldL row es) (hw : x.2.1 = ("back" : Str)) : hasPl row ⟨x.2.1, x.2.2, []⟩ = true := by
  unfold heldL at h
  rcases List.mem_append.mp h with h | h
  · rcases List.mem_append.mp h with h | h
    · have := (enumN_in (w' := "") h).1
      rw [hw] at this; exact absurd this (by decide +kernel)
    · obtain ⟨a1, a2, a3, _⟩ := enumN_in (w' := "") h
      unfold hasPl
      show (if x.2.1 = ("entry" : Str) then _ else decide (0 ≤ x.2.2 ∧ x.2.2 < ((listN row x.2.1).length : Int))) = true
      rw [hw, if_neg (by decide +kernel)]
      exact decide_eq_true ⟨a2, by omega⟩
  · have := (enumN_in (w' := "") h).1
    rw [hw] at this; exact absurd this (by decide +kernel)
def sp_linksTo (K : PySem.W.Frag) (CL CM : Addr) : Sp := fun vs H Q _ => ∃ (a mx dR dE dx p : Addr) (n f d : Int) (row : List Int) (ks qs : List (Int × Addr × List Int)), vs = [.ref a, .int d] ∧ LibRd K CL CM H a dx mx dR dE n f ks qs ∧ lkA ks d = some (p, row) ∧ ∀ L us H', Kp [] H H' → H L = none → H' L = some (.lst us) → DpAll K H' us ((linksP ks qs d).map hD) → Q (.ref L) H'
theorem ok__links_to (T : Txt P w K mg base) : MetOk P w K mg base T.C_Library "_links_to" ["self", "mark"] 4 (sp_linksTo K T.C_Library T.C_Mixing) := by
  obtain ⟨fn, fd, M, F, bi⟩ := T.m_Library__links_to
  refine ⟨fn, fd, fnOk_by F sc_Library__links_to oc_Library__links_to (fun vs H Q E h => ?_) (fun X e1 e2 e3 e4 e5 C H vs Q E h => ?_), M, bi⟩
  · obtain ⟨a, mx, dR, dE, dx, p, n, f, d, row, ks, qs, rfl, _⟩ := h; rfl
  · obtain ⟨a, mx, dR, dE, dx, p, n, f, d, row, ks, qs, rfl, li, hk, q⟩ := h
    have mem := lkA_mem hk
    obtain ⟨th, ro, _⟩ := li.kn.th _ mem
    dsimp only at th ro
    have lh := heldL_len li.kn mem
    dsimp only at lh
    have eL : linksP ks qs d = (heldL row (esOf qs d)).filter (linkB ks row) := by unfold linksP; rw [hk]
    rw [eL] at q
    have hpl := fun x (m : x ∈ heldL row (esOf qs d)) => heldL_pl (row := row) (es := esOf qs d) m
    generalize ehs : heldL row (esOf qs d) = hs at lh q hpl
    wtm_at "go"
    refine xs_set C ?_ (hx := by wtm_at "m") (hl := by wtm_at "m")
    wtm_at "w"
    refine xe_fld ?_
    wtm_at "w"
    refine ⟨a, _, dx, _, _, rfl, li.ha, T.cl_Library, T.na_Library__rows, lib_r mx dR dE, ?_⟩
    wtm_at "w"
    refine vx_dict C (li.hR.get hk) ?_
    refine ⟨_, by wtm_at "u", ?_⟩
    refine xb_cons ?_
    refine xs_ret ?_
    refine xe_lc C ?_
    refine xlc_L2 (Vs' := ["self", "row", "held", "place"]) (G' := ["is_right_round"]) (nm := "held") (nm2 := "place") (i := 3) (j := 4) C ⟨rfl, rfl, by decide, by decide +kernel, by decide +kernel, rfl, by decide +kernel, by decide +kernel, by decide⟩ ?_
    wtm_at "w"
    have hr : SqT X.K H p (row.map V.int) := li.rows _ mem
    refine xe_meth C (ok__held_by T) T.cl_Library (by omega) ?_
    wtm_at "w"
    refine ⟨a, dx, _, rfl, li.ha, lib_no mx dR dE (by decide +kernel) (by decide +kernel) (by decide +kernel), ?_⟩
    wtm_at "w"
    refine ⟨a, mx, dR, dE, dx, p, n, f, d, row, ks, qs, rfl, li, hk, fun L1 us1 H1 k1 n1 h1 d1 => ?_⟩
    rw [ehs] at d1
    have li1 := li.kpN k1 (fun l m => nomatch m)
    have hr1 := k1.tup hr
    have lu1 := dpAll_len d1
    rw [List.length_map] at lu1
    refine ⟨L1, us1, rfl, Z.SqL.of' h1, fun L H2 k2 nL hL => ?_⟩
    have nL0 := k1.n _ nL
    have ne1 : L1 ≠ L := ne_of_none h1 nL
    have nq := li1.nq nL
    have li2 := li1.kpN k2 (fun l m => nomatch m)
    have hr2 := k2.tup hr1
    have d2 := dpAll_kp k2 d1
    have k02 := k1.tr0 k2
    have h12 := k2.at0 h1
    clear k1 k2 li li1 hr hr1 d1 h1
    refine ⟨fun t H' => ∃ us, Kp [L] H2 H' ∧ H' L = some (.lst us) ∧ DpAll X.K H' us (((hs.take t).filter (linkB ks row)).map hD), ⟨[], Kp.refl _ _, hL, by rw [List.take_zero]; exact .nil⟩, ?_, ?_, ?_⟩
    · rintro t H' _ ⟨us, k, _⟩
      exact Z.SqL.of' (k.at1 ne1 h12)
    · rintro t y H3 hy ⟨us, k3, h3, d3⟩
      have ht : t < hs.length := by rw [← lu1]; exact (List.getElem?_eq_some_iff.mp hy).1
      have tj : hs.take (t + 1) = hs.take t ++ [hs[t]] := by rw [List.take_add_one, List.getElem?_eq_getElem ht]; rfl
      obtain ⟨y', hy', dy⟩ := dpAll_at (dpAll_kpT k3 (noL_hD _) d2) (i := t) (d := hD hs[t]) (by rw [List.getElem?_map, List.getElem?_eq_getElem ht]; rfl)
      have ey : y' = y := Option.some.inj (hy'.symm.trans hy)
      subst ey
      have li3 := li2.set hL k3 nq
      have hr3 := k3.tup hr2
      have mem' := List.getElem_mem ht
      have lu := dpAll_len d3
      rw [List.length_map] at lu
      have lf : ((hs.take t).filter (linkB ks row)).length ≤ 20500 := by
        have := List.length_filter_le (linkB ks row) (hs.take t)
        rw [List.length_take] at this; omega
      generalize hs[t] = hx at dy tj mem'
      obtain ⟨sa, vs2, rfl, hsa, da⟩ := dp_tupI dy
      obtain ⟨x1, x2, rfl, e1, e2⟩ := dpAll2 da
      rw [dp_intI e1] at hsa
      obtain ⟨pa, vs3, rfl, hpa, db⟩ := dp_tupI e2
      obtain ⟨y1, y2, rfl, g1, g2⟩ := dpAll2 db
      rw [dp_strI g1, dp_intI g2] at hpa
      have dall : Dp X.K H3 (.ref sa) (hD hx) := dy
      clear da e1 e2 db g1 g2
      refine ⟨sa, .int hx.1, .ref pa, _, _, rfl, hsa, by wtm_at "u", by wtm_at "u", ?_⟩
      intro s0 H0 c' cl fp C'
      wtm_at "w"
      refine xe_fld ?_
      wtm_at "w"
      refine ⟨a, _, dx, _, _, rfl, li3.ha, T.cl_Library, T.na_Library__rows, lib_r mx dR dE, ?_⟩
      cases hz : lkA ks hx.1 with
      | none =>
        refine vo_inD C' (o := none) (.inl ⟨_, .inl hx.1, li3.hR, rfl, by rw [valV_kvR, hz]; rfl⟩) ?_
        have lb : linkB ks row hx = false := by unfold linkB; rw [hz]
        wtm_at "w"
        refine L2.iteF ?_
        refine L2.iteF ?_
        refine ⟨us, k3, h3, ?_⟩
        rw [tj, List.filter_append, List.filter_cons, if_neg (by rw [lb]; decide), List.filter_nil, List.append_nil]
        exact d3
      | some z =>
        refine vo_inD C' (o := some (.ref z.1)) (.inl ⟨_, .inl hx.1, li3.hR, rfl, by rw [valV_kvR, hz]; rfl⟩) ?_
        have lb : linkB ks row hx = rrB z.2 row ⟨hx.2.1, hx.2.2, []⟩ := by unfold linkB; rw [hz]
        have mz := lkA_mem hz
        obtain ⟨thz, roz, _⟩ := li3.kn.th _ mz
        have hz3 : SqT X.K H3 z.1 (z.2.map V.int) := li3.rows _ mz
        dsimp only at thz roz
        wtm_at "w"
        refine L2.iteT ?_
        wtm_at "w"
        refine xe_fld ?_
        wtm_at "w"
        refine ⟨a, _, dx, _, _, rfl, li3.ha, T.cl_Library, T.na_Library__rows, lib_r mx dR dE, ?_⟩
        wtm_at "w"
        refine vx_dict C' (li3.hR.get hz) ?_
        wtm_at "w"
        refine ⟨z.1, p, pa, z.2, row, ⟨hx.2.1, hx.2.2, []⟩, rfl, hz3, hr3, ⟨[], hpa⟩, thz, th, ro, hpl hx mem', fun H4 k4 => ?_⟩
        rw [← lb]
        have h34 := k4.at0 h3
        have d34 := dpAll_kp k4 d3
        have da4 := dp_kp k4 dall
        have hpa4 := k4.tup hpa
        have k34 : Kp [L] H2 H4 := k3.tr0 k4
        clear k4 k3 d3 dall hpa li3 hz3 hr3 hsa dy
        wtm_at "w"
        cases hb : linkB ks row hx with
        | false =>
          refine L2.iteF ?_
          refine ⟨us, k34, h34, ?_⟩
          rw [tj, List.filter_append, List.filter_cons, if_neg (by rw [hb]; decide), List.filter_nil, List.append_nil]
          exact d34
        | true =>
          refine L2.iteT ?_
          intro s1 H6 c2 cl2 fp2 C2
          wtm_at "w"
          intro tp H7 k7 htp _
          have htp' : SqT X.K H7 tp [.int hx.1, .ref pa] := htp
          refine ⟨us, k7.at0 h34, szl (by omega), fun H8 k8 h8 => ⟨us ++ [.ref tp], (k34.tr0 k7).tr k8 (fun l m => .inl m), h8, ?_⟩⟩
          rw [tj, List.filter_append, List.filter_cons, if_pos hb, List.filter_nil, List.map_append]
          have k78 : Kp [L] H4 H8 := (k7.wk (fun l m => nomatch m)).tr k8 (fun l m => .inl m)
          exact dpAll_app (dpAll_kpT k78 (noL_hD _) d34) (.cons (.tup (k8.tup htp') (.cons (.int _) (.cons (.tup (k78.tup hpa4) (.cons (.str _) (.cons (.int _) .nil))) .nil))) .nil)
    · rintro H3 ⟨us, k3, h3, d3⟩
      rw [lu1, List.take_length] at d3
      exact q L us H3 (k02.tr k3 (fun l m => .inr (by rw [List.mem_singleton.mp m]; exact nL0))) nL0 h3 d3
end
/-! firstPl -/
section
local macro_rules | `(tactic| wtm_at "d") => `(tactic| first | ((with_reducible show Z.XE _ (PySem.Expr.Name "ENTRY" _) _ _ _); refine Z.xe_glob (v := L2.V.str "entry") (by assumption) (by wtm_at "m") T.c_ENTRY.choose_spec ⟨_, rfl⟩ ?_) | ((with_reducible show Z.XE _ (PySem.Expr.Call (PySem.Expr.Name "way_of" _) (_ :: _) [] _) _ _ _); refine Z.xe_call (by assumption) (Law.ok_way_of T) (by wtm_at "m") (by omega) ?_) | fail)
/-! the place by which a row is reached -/
def placeP (n f : Int) (qs : List (Int × Addr × List Int)) (later : Int) (x : Int × Str × Int) : Pl := ⟨x.2.1, x.2.2, if x.2.1 = ("entry" : Str) then wy n f (esOf qs later) x.2.2.toNat else []⟩
def sp_wholePl (K : PySem.W.Frag) (CL CM : Addr) : Sp := fun vs H Q _ => ∃ (a mx dR dE dx p : Addr) (n f d : Int) (x : Int × Str × Int) (ks qs : List (Int × Addr × List Int)), vs = [.ref a, .int d, .ref p] ∧ LibRd K CL CM H a dx mx dR dE n f ks qs ∧ 0 < n ∧ SqT K H p [.str x.2.1, .int x.2.2] ∧ (x.2.1 = ("entry" : Str) → lkA qs d ≠ none ∧ 0 ≤ x.2.2 ∧ x.2.2.toNat < (esOf qs d).length ∧ (esOf qs d).length ≤ 500) ∧ ∀ v H', Kp [] H H' → Dp K H' v (plD (placeP n f qs d x)) → Q v H'
theorem ok__whole_place (T : Txt P w K mg base) : MetOk P w K mg base T.C_Library "_whole_place" ["self", "mark", "place"] 15 (sp_wholePl K T.C_Library T.C_Mixing) := by
  obtain ⟨fn, fd, M, F, bi⟩ := T.m_Library__whole_place
  refine ⟨fn, fd, fnOk_by F sc_Library__whole_place oc_Library__whole_place (fun vs H Q E h => ?_) (fun X e1 e2 e3 e4 e5 C H vs Q E h => ?_), M, bi⟩
  · obtain ⟨a, mx, dR, dE, dx, p, n, f, d, x, ks, qs, rfl, _⟩ := h; rfl
  · obtain ⟨a, mx, dR, dE, dx, p, n, f, d, x, ks, qs, rfl, li, hn, hp, hen, q⟩ := h
    wtm_at "go"
    refine xs_asg ?_
    wtm_at "w"
    refine xg_tup C ⟨p, _, rfl, hp, rfl, ?_⟩
    wtm_at "w"
    refine ite_nd (fun h1 => ?_) (fun h1 => ?_)
    · wtm_at "w"
      refine q _ H (Kp.refl _ _) ?_
      unfold plD placeP
      rw [if_neg h1]
      exact .tup hp (.cons (.str _) (.cons (.int _) .nil))
    · have h1 : x.2.1 = ("entry" : Str) := h1
      obtain ⟨g1, g2, g3, g4⟩ := hen h1
      obtain ⟨i, ei⟩ := Int.eq_ofNat_of_zero_le g2
      cases hz : lkA qs d with
      | none => exact absurd hz g1
      | some z =>
        have ee : esOf qs d = z.2 := by unfold esOf; rw [hz]
        rw [ee] at g3 g4
        have hze := li.ents _ (lkA_mem hz)
        dsimp only at hze
        wtm_at "w"
        refine xe_fld ?_
        wtm_at "w"
        refine ⟨a, _, dx, _, _, rfl, li.ha, T.cl_Library, T.na_Library_mixing, lib_m mx dR dE, ?_⟩
        wtm_at "w"
        refine xe_fld ?_
        wtm_at "w"
        refine ⟨a, _, dx, _, _, rfl, li.ha, T.cl_Library, T.na_Library__entries, lib_e mx dR dE, ?_⟩
        wtm_at "w"
        refine vx_dict C (li.hE.get hz) ?_
        wtm_at "w"
        refine ⟨mx, z.1, n, f, z.2, i, by rw [ei], li.hx, hze, by omega, by omega, hn, fun t H1 k1 ht => ?_⟩
        wtm_at "w"
        intro tp H2 k2 htp _
        refine q _ H2 (k1.tr0 k2) ?_
        unfold plD placeP
        rw [if_pos h1, if_pos h1, ee, ei, Int.toNat_natCast]
        rw [h1, ei] at htp
        rw [h1]
        exact .tup htp (.cons (.str _) (.cons (.int _) (.cons (dp_T (k2.tup ht)) .nil)))
theorem entOk {n f : Int} {ks qs : List (Int × Addr × List Int)} (kn : Know n f ks qs) {d : Int} {z : Addr × List Int} (hk : lkA ks d = some z) {x : Int × Str × Int} (m : x ∈ heldL z.2 (esOf qs d)) (he : x.2.1 = ("entry" : Str)) : lkA qs d ≠ none ∧ 0 ≤ x.2.2 ∧ x.2.2.toNat < (esOf qs d).length ∧ (esOf qs d).length ≤ 500 := by
  have h : 0 ≤ x.2.2 ∧ x.2.2.toNat < (esOf qs d).length := by
    unfold heldL at m
    rcases List.mem_append.mp m with m | m
    · rcases List.mem_append.mp m with m | m
      · have := (enumN_in (w' := "") m).1
        rw [he] at this; exact absurd this (by decide +kernel)
      · have := (enumN_in (w' := "") m).1
        rw [he] at this; exact absurd this (by decide +kernel)
    · obtain ⟨_, a2, a3, _⟩ := enumN_in (w' := "") m
      exact ⟨a2, a3⟩
  have mem := lkA_mem hk
  have hq : lkA qs d ≠ none := fun e => by
    have : esOf qs d = [] := by unfold esOf; rw [e]
    rw [this] at h
    exact absurd h.2 (by simp)
  refine ⟨hq, h.1, h.2, ?_⟩
  by_cases r4 : z.2.getD 0 0 = 4
  · obtain ⟨c, es, e1, _, _, _, e5⟩ := kn.hd _ mem r4
    have : esOf qs d = es := by unfold esOf; rw [show lkA qs d = some (c, es) from e1]
    rw [this]; exact e5
  · exact absurd (kn.no _ mem r4) hq
def firstL (ks qs : List (Int × Addr × List Int)) (m later : Int) : Option (Int × Str × Int) := (linksP ks qs later).find? fun x => decide (x.1 = m)
theorem linksP_in {ks qs : List (Int × Addr × List Int)} {d : Int} {z : Addr × List Int} (hk : lkA ks d = some z) {x : Int × Str × Int} (m : x ∈ linksP ks qs d) : x ∈ heldL z.2 (esOf qs d) ∧ linkB ks z.2 x = true := by
  unfold linksP at m
  rw [hk] at m
  exact List.mem_filter.mp m
def sp_firstPl (K : PySem.W.Frag) (CL CM : Addr) : Sp := fun vs H Q _ => ∃ (a mx dR dE dx : Addr) (n f m later : Int) (z : Addr × List Int) (x : Int × Str × Int) (ks qs : List (Int × Addr × List Int)), vs = [.ref a, .int m, .int later] ∧ LibRd K CL CM H a dx mx dR dE n f ks qs ∧ 0 < n ∧ lkA ks later = some z ∧ firstL ks qs m later = some x ∧ ∀ v H', Kp [] H H' → Dp K H' v (plD (placeP n f qs later x)) → Q v H'
theorem ok__first_place (T : Txt P w K mg base) : MetOk P w K mg base T.C_Library "_first_place" ["self", "mark", "later"] 16 (sp_firstPl K T.C_Library T.C_Mixing) := by
  obtain ⟨fn, fd, M, F, bi⟩ := T.m_Library__first_place
  refine ⟨fn, fd, fnOk_by F sc_Library__first_place oc_Library__first_place (fun vs H Q E h => ?_) (fun X e1 e2 e3 e4 e5 C H vs Q E h => ?_), M, bi⟩
  · obtain ⟨a, mx, dR, dE, dx, n, f, m, later, z, x, ks, qs, rfl, _⟩ := h; rfl
  · obtain ⟨a, mx, dR, dE, dx, n, f, m, later, z, x, ks, qs, rfl, li, hn, hk, hx, q⟩ := h
    have hme := fun y (my : y ∈ linksP ks qs later) => entOk li.kn hk (linksP_in hk my).1
    unfold firstL at hx
    wtm_at "go"
    refine xs_forL C ?_
    wtm_at "w"
    refine xe_meth C (ok__links_to T) T.cl_Library (by omega) ?_
    wtm_at "w"
    refine ⟨a, dx, _, rfl, li.ha, lib_no mx dR dE (by decide +kernel) (by decide +kernel) (by decide +kernel), ?_⟩
    wtm_at "w"
    refine ⟨a, mx, dR, dE, dx, z.1, n, f, later, z.2, ks, qs, rfl, li, hk, fun L us H1 k1 n1 h1 d1 => ?_⟩
    have li1 := li.kpN k1 (fun l m => nomatch m)
    have lu := dpAll_len d1
    rw [List.length_map] at lu
    generalize linksP ks qs later = ls at hx hme d1 lu
    refine ⟨L, us, rfl, Z.SqL.of' h1, fun t σ H' => ∃ v3 v4, σ = [some (.ref a), some (.int m), some (.int later), v3, v4] ∧ Kp [] H1 H' ∧ ∀ j, j < t → ∀ y, ls[j]? = some y → y.1 ≠ m, ⟨_, _, rfl, Kp.refl _ _, fun j hj => absurd hj (by omega)⟩, ?_, ?_, ?_⟩
    · rintro t σ' H' _ ⟨v3, v4, rfl, k, _⟩
      exact Z.SqL.of' (k.at0 h1)
    · rintro t y σ' H2 hy ⟨v3, v4, rfl, k2, hj⟩
      have ht : t < ls.length := by rw [← lu]; exact (List.getElem?_eq_some_iff.mp hy).1
      have et := List.getElem?_eq_getElem ht
      obtain ⟨y', hy', dy⟩ := dpAll_at (dpAll_kp k2 d1) (i := t) (d := hD ls[t]) (by rw [List.getElem?_map, et]; rfl)
      have ey : y' = y := Option.some.inj (hy'.symm.trans hy)
      subst ey
      have li2 := li1.kpN k2 (fun l m => nomatch m)
      have mem' := List.getElem_mem ht
      generalize ls[t] = hx' at dy mem' et
      obtain ⟨sa, vs2, rfl, hsa, da⟩ := dp_tupI dy
      obtain ⟨x1, x2, rfl, g1, g2⟩ := dpAll2 da
      rw [dp_intI g1] at hsa
      obtain ⟨pa, vs3, rfl, hpa, db⟩ := dp_tupI g2
      obtain ⟨y1, y2, rfl, g3, g4⟩ := dpAll2 db
      rw [dp_strI g3, dp_intI g4] at hpa
      refine xg_tup C ⟨sa, _, rfl, hsa, rfl, ?_⟩
      wtm_at "w"
      refine ite_d (fun he => ?_) (fun he => ?_)
      · have ex : ls.find? (fun y => decide (y.1 = m)) = some hx' := by
          rw [List.find?_eq_some_iff_getElem]
          refine ⟨decide_eq_true he, t, ht, (List.getElem?_eq_some_iff.mp et).2, fun j hjt => ?_⟩
          have := hj j hjt _ (List.getElem?_eq_getElem (by omega))
          simp [this]
        rw [ex] at hx
        have exx := Option.some.inj hx
        subst exx
        wtm_at "w"
        refine xe_meth C (ok__whole_place T) T.cl_Library (by omega) ?_
        wtm_at "w"
        refine ⟨a, dx, _, rfl, li2.ha, lib_no mx dR dE (by decide +kernel) (by decide +kernel) (by decide +kernel), ?_⟩
        wtm_at "w"
        exact ⟨a, mx, dR, dE, dx, pa, n, f, later, hx', ks, qs, rfl, li2, hn, hpa, hme _ mem', fun v H3 k3 hv => q v H3 ((k1.tr0 k2).tr0 k3) hv⟩
      · repeat refine xb_nil ?_
        refine ⟨_, _, rfl, k2, fun j hjt y hy2 => ?_⟩
        by_cases e : j = t
        · rw [e, et] at hy2
          rw [← Option.some.inj hy2]; exact he
        · exact hj j (by omega) y hy2
    · rintro σ' H2 ⟨v3, v4, rfl, k2, hj⟩
      exfalso
      obtain ⟨hp, j, hjl, hje, _⟩ := List.find?_eq_some_iff_getElem.mp hx
      exact hj j (by rw [lu]; exact hjl) x (by rw [List.getElem?_eq_getElem hjl, hje]) (of_decide_eq_true hp)
end
/-! folP -/
/-! breadth first, as numbers -/
abbrev KA' := List (Int × Addr × List Int)
abbrev Fo := List (Int × Int)
def lkF : Fo → Int → Option Int
  | [], _ => none
  | p :: r, x => if p.1 = x then some p.2 else lkF r x
def kvF (fo : Fo) : List (Key × V) := fo.map fun p => (.inl p.1, .int p.2)
theorem valV_kvF (x : Int) : ∀ fo : Fo, valV (kvF fo) (.inl x) = (lkF fo x).map V.int
  | [] => rfl
  | p :: r => by
    rw [lkF]
    show valV ((Sum.inl p.1, V.int p.2) :: kvF r) (.inl x) = _
    by_cases e : p.1 = x
    · rw [if_pos e, valV_pos (by rw [e])]; rfl
    · rw [if_neg e, valV_neg (fun z => e (Sum.inl.inj z)), valV_kvF x r]
theorem lkF_mem : ∀ {fo : Fo} {x y : Int}, lkF fo x = some y → (x, y) ∈ fo
  | [], x, y, h => nomatch h
  | p :: r, x, y, h => by
    rw [lkF] at h
    by_cases e : p.1 = x
    · rw [if_pos e] at h
      have : p = (x, y) := Prod.ext e (Option.some.inj h)
      rw [this]; exact List.mem_cons_self
    · rw [if_neg e] at h
      exact List.mem_cons_of_mem _ (lkF_mem h)
theorem lkF_none : ∀ {fo : Fo} {x : Int}, lkF fo x = none ↔ x ∉ fo.map (·.1)
  | [], x => ⟨fun _ => List.not_mem_nil, fun _ => rfl⟩
  | p :: r, x => by
    rw [lkF, List.map_cons, List.mem_cons]
    by_cases e : p.1 = x
    · rw [if_pos e]; exact ⟨fun z => (nomatch z), fun z => absurd (.inl e.symm) z⟩
    · rw [if_neg e, lkF_none (fo := r)]
      exact ⟨fun z m => m.elim (fun w => e w.symm) z, fun z m => z (.inr m)⟩
theorem lkF_app : ∀ {a b : Fo} {x : Int}, lkF (a ++ b) x = (lkF a x).or (lkF b x)
  | [], b, x => by rw [List.nil_append, lkF]; rfl
  | p :: r, b, x => by
    rw [List.cons_append, lkF, lkF]
    by_cases e : p.1 = x
    · rw [if_pos e, if_pos e]; rfl
    · rw [if_neg e, if_neg e]; exact lkF_app
def rwOf (ks : KA') (d : Int) : List Int := match lkA ks d with
  | none => []
  | some z => z.2
def addF (fo : Fo) (later : Int) (fd : Fo) (x : Int × Str × Int) : Fo := if lkF fo x.1 = none ∧ lkF fd x.1 = none then fd ++ [(x.1, later)] else fd
def srtL (ks : KA') (lv : List Int) : List Int := lv.mergeSort (PySem.W.dataLe false fun n => .tuple ((rwOf ks n).map PyData.int))
def roundF (ks qs : KA') (fo : Fo) (ls : List Int) : Fo := ls.foldl (fun fd later => (linksP ks qs later).foldl (addF fo later) fd) []
def followF (ks qs : KA') (start : Int) : Nat → Fo → List Int → Fo
  | 0, fo, _ => fo
  | k + 1, fo, lv => if lv = [] ∨ lkF fo start ≠ none then fo else followF ks qs start k (fo ++ roundF ks qs fo (srtL ks lv)) ((roundF ks qs fo (srtL ks lv)).map (·.1))
theorem followF_stop {ks qs : KA'} {start : Int} {k : Nat} {fo : Fo} {lv : List Int} (h : lv = [] ∨ lkF fo start ≠ none) : followF ks qs start k fo lv = fo := by
  cases k with
  | zero => rfl
  | succ k => rw [followF, if_pos h]
/-- what is found beside what follows: new, once, known, reached by a link -/
structure FdOk (ks qs : KA') (fo fd : Fo) (src : List Int) : Prop where
  new : ∀ p ∈ fd, lkF fo p.1 = none
  nd : (fd.map (·.1)).Nodup
  lnk : ∀ p ∈ fd, p.2 ∈ src ∧ ∃ x ∈ linksP ks qs p.2, x.1 = p.1
theorem FdOk.nil {ks qs : KA'} {fo : Fo} {src : List Int} : FdOk ks qs fo [] src := ⟨fun _ m => absurd m List.not_mem_nil, List.nodup_nil, fun _ m => absurd m List.not_mem_nil⟩
theorem FdOk.add {ks qs : KA'} {fo fd : Fo} {src : List Int} (h : FdOk ks qs fo fd src) {later : Int} (hl : later ∈ src) {x : Int × Str × Int} (hx : x ∈ linksP ks qs later) : FdOk ks qs fo (addF fo later fd x) src := by
  unfold addF
  by_cases e : lkF fo x.1 = none ∧ lkF fd x.1 = none
  · rw [if_pos e]
    refine ⟨fun p m => ?_, ?_, fun p m => ?_⟩
    · rcases List.mem_append.mp m with m | m
      · exact h.new p m
      · rw [List.mem_singleton.mp m]; exact e.1
    · rw [List.map_append, List.nodup_append]
      refine ⟨h.nd, by simp, fun a ha b hb => ?_⟩
      have : b = x.1 := by simpa using hb
      rw [this]
      exact fun z => lkF_none.mp e.2 (z ▸ ha)
    · rcases List.mem_append.mp m with m | m
      · exact h.lnk p m
      · rw [List.mem_singleton.mp m]; exact ⟨hl, x, hx, rfl⟩
  · rw [if_neg e]; exact h
theorem FdOk.row {ks qs : KA'} {fo : Fo} {src : List Int} {later : Int} (hl : later ∈ src) : ∀ (ls : List (Int × Str × Int)) {fd : Fo}, (∀ x ∈ ls, x ∈ linksP ks qs later) → FdOk ks qs fo fd src → FdOk ks qs fo (ls.foldl (addF fo later) fd) src
  | [], fd, _, h => h
  | x :: r, fd, hx, h => FdOk.row hl r (fun y m => hx y (List.mem_cons_of_mem _ m)) (h.add hl (hx x List.mem_cons_self))
theorem FdOk.round {ks qs : KA'} {fo : Fo} {src : List Int} : ∀ (ls : List Int) {fd : Fo}, (∀ l ∈ ls, l ∈ src) → FdOk ks qs fo fd src → FdOk ks qs fo (ls.foldl (fun fd later => (linksP ks qs later).foldl (addF fo later) fd) fd) src
  | [], fd, _, h => h
  | l :: r, fd, hl, h => FdOk.round r (fun y m => hl y (List.mem_cons_of_mem _ m)) (FdOk.row (hl l List.mem_cons_self) _ (fun _ m => m) h)
theorem linksP_known {ks qs : KA'} {d : Int} {x : Int × Str × Int} (h : x ∈ linksP ks qs d) : lkA ks x.1 ≠ none ∧ lkA ks d ≠ none := by
  unfold linksP at h
  cases e : lkA ks d with
  | none => rw [e] at h; exact absurd h List.not_mem_nil
  | some z =>
    rw [e] at h
    have := (List.mem_filter.mp h).2
    refine ⟨fun e2 => ?_, by simp⟩
    unfold linkB at this
    rw [e2] at this; cases this
/-- what follows: once each, known, each behind the first reached by a link from an earlier -/
structure FoOk (ks qs : KA') (e : Int) (fo : Fo) : Prop where
  hd : fo[0]? = some (e, e)
  nd : (fo.map (·.1)).Nodup
  kn : ∀ p ∈ fo, lkA ks p.1 ≠ none
  lnk : ∀ i p, 0 < i → fo[i]? = some p → (∃ j q, j < i ∧ fo[j]? = some q ∧ q.1 = p.2) ∧ ∃ x ∈ linksP ks qs p.2, x.1 = p.1
theorem FoOk.start {ks qs : KA'} {e : Int} (h : lkA ks e ≠ none) : FoOk ks qs e [(e, e)] := ⟨rfl, by simp, fun p m => by rw [List.mem_singleton.mp m]; exact h, fun i p h0 hi => by
  have := (List.getElem?_eq_some_iff.mp hi).1
  simp at this; omega⟩
theorem FoOk.step {ks qs : KA'} {e : Int} {fo fd : Fo} {src : List Int} (h : FoOk ks qs e fo) (g : FdOk ks qs fo fd src) (hs : ∀ l ∈ src, l ∈ fo.map (·.1)) : FoOk ks qs e (fo ++ fd) := by
  have l0 : 0 < fo.length := by
    have := (List.getElem?_eq_some_iff.mp h.hd).1; omega
  refine ⟨by rw [List.getElem?_append_left l0]; exact h.hd, ?_, fun p m => ?_, fun i p h0 hi => ?_⟩
  · rw [List.map_append, List.nodup_append]
    refine ⟨h.nd, g.nd, fun a ha b hb z => ?_⟩
    obtain ⟨p, mp, rfl⟩ := List.mem_map.mp hb
    exact lkF_none.mp (g.new p mp) (z ▸ ha)
  · rcases List.mem_append.mp m with m | m
    · exact h.kn p m
    · obtain ⟨_, x, hx, e2⟩ := g.lnk p m
      rw [← e2]; exact (linksP_known hx).1
  · by_cases lt : i < fo.length
    · rw [List.getElem?_append_left lt] at hi
      obtain ⟨⟨j, q, hj, hq, e1⟩, e2⟩ := h.lnk i p h0 hi
      exact ⟨⟨j, q, hj, by rw [List.getElem?_append_left (by omega)]; exact hq, e1⟩, e2⟩
    · rw [List.getElem?_append_right (by omega)] at hi
      obtain ⟨hp, e2⟩ := g.lnk p (List.mem_of_getElem? hi)
      obtain ⟨q, mq, eq⟩ := List.mem_map.mp (hs _ hp)
      obtain ⟨j, hj⟩ := List.getElem?_of_mem mq
      have jl := (List.getElem?_eq_some_iff.mp hj).1
      exact ⟨⟨j, q, by omega, by rw [List.getElem?_append_left jl]; exact hj, eq⟩, e2⟩
theorem nodup_len {α : Type} [DecidableEq α] : ∀ {a b : List α}, a.Nodup → (∀ x ∈ a, x ∈ b) → a.length ≤ b.length
  | [], b, _, _ => Nat.zero_le _
  | x :: r, b, nd, h => by
    rw [List.nodup_cons] at nd
    have hx := h x List.mem_cons_self
    have := nodup_len (a := r) (b := b.erase x) nd.2 (fun y m => by
      have ne : y ≠ x := fun z => nd.1 (by rw [← z]; exact m)
      rw [List.mem_erase_of_ne ne]
      exact h y (List.mem_cons_of_mem _ m))
    rw [List.length_erase_of_mem hx] at this
    have : 0 < b.length := List.length_pos_of_mem hx
    rw [List.length_cons]; omega
theorem lkA_key {ks : KA'} {x : Int} (h : lkA ks x ≠ none) : x ∈ ks.map (·.1) := by
  cases e : lkA ks x with
  | none => exact absurd e h
  | some z => exact List.mem_map.mpr ⟨_, lkA_mem e, rfl⟩
theorem FoOk.len {ks qs : KA'} {e : Int} {fo : Fo} (h : FoOk ks qs e fo) : fo.length ≤ ks.length := by
  have := nodup_len h.nd (b := ks.map (·.1)) (fun x m => by
    obtain ⟨p, mp, rfl⟩ := List.mem_map.mp m
    exact lkA_key (h.kn p mp))
  rw [List.length_map, List.length_map] at this
  exact this
def muF (ks : KA') (fo : Fo) (lv : List Int) : Nat := 2 * (ks.length - fo.length) + (if lv = [] then 0 else 1)
theorem srtL_mem {ks : KA'} {lv : List Int} {x : Int} : x ∈ srtL ks lv ↔ x ∈ lv := List.mem_mergeSort
theorem srtL_len {ks : KA'} {lv : List Int} : (srtL ks lv).length = lv.length := List.length_mergeSort _
theorem FdOk.len {ks qs : KA'} {fo fd : Fo} {src : List Int} (h : FdOk ks qs fo fd src) : fd.length ≤ ks.length := by
  have := nodup_len h.nd (b := ks.map (·.1)) (fun x m => by
    obtain ⟨p, mp, rfl⟩ := List.mem_map.mp m
    obtain ⟨_, y, hy, e⟩ := h.lnk p mp
    rw [← e]; exact lkA_key (linksP_known hy).1)
  rw [List.length_map, List.length_map] at this
  exact this
theorem kvF_app (fo : Fo) (x y : Int) : kvF (fo ++ [(x, y)]) = kvF fo ++ [(.inl x, .int y)] := by unfold kvF; rw [List.map_append]; rfl
def foldF (ks qs : KA') (fo : Fo) (fd : Fo) (later : Int) : Fo := (linksP ks qs later).foldl (addF fo later) fd
theorem roundF_eq {ks qs : KA'} {fo : Fo} {ls : List Int} : roundF ks qs fo ls = ls.foldl (foldF ks qs fo) [] := rfl
/-! folW -/
section
local macro_rules | `(tactic| wtm_at "d") => `(tactic| first | ((with_reducible show Z.XE _ (PySem.Expr.Call (PySem.Expr.Name "list" _) (_ :: _) [] _) _ _ _); refine Z.xe_callTy (id := "list") (by assumption) (by wtm_at "m") T.b_list (by decide +kernel) ?_) | ((with_reducible show Z.XE _ (PySem.Expr.Name "list" _) _ _ _); refine Z.xe_ty (id := "list") (by assumption) (by wtm_at "m") T.b_list (by decide +kernel) ?_) | ((with_reducible show Z.XE _ (PySem.Expr.Call (PySem.Expr.Name "sorted" _) (_ :: _) [] _) _ _ _); refine Z.xe_callB (id := "sorted") (by assumption) (by wtm_at "m") T.b_sorted (by decide +kernel) ?_) | fail)
/-! following: the levels walked -/
def sp_folw (K : PySem.W.Frag) (CL CM : Addr) : Sp := fun vs H Q _ => ∃ (a mx dR dE dx : Addr) (n f s e : Int) (ks qs : KA'), vs = [.ref a, .int s, .int e] ∧ LibRd K CL CM H a dx mx dR dE n f ks qs ∧ lkA ks e ≠ none ∧ ks.length ≤ 1000 ∧ ∀ D fo H', Kp [] H H' → H D = none → H' D = some (.dK (kvF fo)) → fo = followF ks qs s (2 * ks.length + 2) [(e, e)] [e] → FoOk ks qs e fo → Q (.ref D) H'
theorem ok__following (T : Txt P w K mg base) : MetOk P w K mg base T.C_Library "_following" ["self", "start", "end"] 17 (sp_folw K T.C_Library T.C_Mixing) := by
  obtain ⟨fn, fd, M, F, bi⟩ := T.m_Library__following
  refine ⟨fn, fd, fnOk_by F sc_Library__following oc_Library__following (fun vs H Q E h => ?_) (fun X e1 e2 e3 e4 e5 C H vs Q E h => ?_), M, bi⟩
  · obtain ⟨a, mx, dR, dE, dx, n, f, s, e, ks, qs, rfl, _⟩ := h; rfl
  · obtain ⟨a, mx, dR, dE, dx, n, f, s, e, ks, qs, rfl, li, he, lk, q⟩ := h
    wtm_at "go"
    wtm_at "w"
    refine xe_disp1 (fun D H1 k1 nD h1 => ?_)
    wtm_at "w"
    refine ⟨h1, .inl e, rfl, fun H2 k2 h2 => ?_⟩
    have k02 : Kp [] H H2 := k1.tr1 k2 (.inr nD)
    have li2 := li.kpN k02 (fun l m => nomatch m)
    clear k1 k2 h1
    wtm_at "w"
    intro LV H3 k3 nLV hLV
    have hD3 := k3.at0 h2
    have li3 := li2.kpN k3 (fun l m => nomatch m)
    have k03 := k02.tr0 k3
    have nLV0 := k02.n _ nLV
    clear k3 k02 h2 li2 nLV
    have hks : 1 ≤ ks.length := by
      have := (FoOk.start (qs := qs) he).len
      simpa using this
    refine ⟨_, by wtm_at "u", ?_⟩
    refine xb_cons ?_
    refine xs_while C (fun m σ H' => ∃ (fo : Fo) (lv : List Int) (LV : Addr) (fuel : Nat) (v5 v6 v7 v8 : Option V), σ = [some (.ref a), some (.int s), some (.int e), some (.ref D), some (.ref LV), v5, v6, v7, v8] ∧ m = muF ks fo lv ∧ m ≤ fuel ∧ followF ks qs s (2 * ks.length + 2) [(e, e)] [e] = followF ks qs s fuel fo lv ∧ FoOk ks qs e fo ∧ (∀ l ∈ lv, l ∈ fo.map (·.1)) ∧ lv.length ≤ 1000 ∧ Kp [] H H' ∧ H' D = some (.dK (kvF fo)) ∧ H' LV = some (.lst (lv.map V.int)) ∧ H LV = none) ⟨_, [(e, e)], [e], LV, 2 * ks.length + 2, _, _, _, _, rfl, rfl, ?_, rfl, FoOk.start he, fun l m => by rw [List.mem_singleton.mp m]; simp, by simp, k03, hD3, hLV, nLV0⟩ ?_
    · unfold muF
      rw [if_neg (by simp)]
      show 2 * (ks.length - 1) + 1 ≤ _
      omega
    · clear li3 k03 hD3 hLV nLV0
      rintro m σ' H4 ⟨fo, lv, LV, fuel, v5, v6, v7, v8, rfl, em, lef, efu, fok, hlv, llv, k4, hD4, hLV4, nLV0⟩
      have li4 := li.kpN k4 (fun l m => nomatch m)
      have lfo := fok.len
      have rest : ∀ H', Kp [] H H' → H' D = some (.dK (kvF fo)) → (lv = [] ∨ lkF fo s ≠ none) → Q (.ref D) H' := fun H' k h c => by
        refine q D fo H' k nD h ?_ fok
        rw [efu, followF_stop c]
      by_cases l0 : lv = []
      · have ei : (!(lv.map V.int).isEmpty) = false := by rw [l0]; rfl
        wtm_at "w"
        rw [ei]
        refine L2.iteF ?_
        refine L2.iteF ?_
        wtm_at "w"
        exact rest H4 k4 hD4 (.inl l0)
      · have ei : (!(lv.map V.int).isEmpty) = true := by
          cases lv with
          | nil => exact absurd rfl l0
          | cons x r => rfl
        wtm_at "w"
        rw [ei]
        refine L2.iteT ?_
        wtm_at "w"
        refine vo_notInD C (o := (lkF fo s).map V.int) (.inl ⟨_, .inl s, .inl hD4, rfl, (valV_kvF s fo).symm⟩) ?_
        cases hs : lkF fo s with
        | some y =>
          wtm_at "w"
          refine L2.iteF ?_
          wtm_at "w"
          exact rest H4 k4 hD4 (.inr (by rw [hs]; simp))
        | none =>
          wtm_at "w"
          refine L2.iteT ?_
          clear rest
          have hlk : ∀ l ∈ srtL ks lv, lkA ks l ≠ none := fun l ml => by
            obtain ⟨p, mp, ep⟩ := List.mem_map.mp (hlv l (srtL_mem.mp ml))
            rw [← ep]; exact fok.kn p mp
          refine xb_cons ?_
          refine xs_set C ?_ (hx := by wtm_at "m") (hl := by wtm_at "m")
          refine xe_dnewK (fun FD H5 k5 nFD hFD => ?_)
          refine ⟨_, by wtm_at "u", ?_⟩
          have nFD0 := k4.n _ nFD
          have hD5 := k5.at0 hD4
          have hLV5 := k5.at0 hLV4
          have li5 := li4.kpN k5 (fun l m => nomatch m)
          have k05 := k4.tr0 k5
          have nDF : D ≠ FD := ne_of_none hD4 nFD
          clear k5 k4 hD4 hLV4 li4
          refine xb_cons ?_
          refine xs_forL C ?_
          refine xe_sortB C (ok__row_with T) T.bm_Library__row_with T.cl_Library (by omega) (by wtm_at "m") T.b_sorted (by rfl) ?_
          wtm_at "w"
          refine ⟨a, dx, _, fun l => ((lkA ks l).getD (0, [])).1, rwOf ks, rfl, li5.ha, lib_no mx dR dE (by decide +kernel) (by decide +kernel) (by decide +kernel), fun H6 k6 => ⟨Z.SqL.of' (k6.at0 hLV5), fun l ml => ?_, fun l ml => ?_, fun SL H7 k7 nSL hSL => ?_⟩⟩
          · have li6 := li5.kpN k6 (fun l m => nomatch m)
            cases hz : lkA ks l with
            | none => exact absurd hz (hlk l (srtL_mem.mpr ml))
            | some z =>
              have e : rwOf ks l = z.2 := by unfold rwOf; rw [hz]
              have mz := lkA_mem hz
              rw [e]
              show SqT X.K H6 ((lkA ks l).getD (0, [])).1 _ ∧ _
              rw [hz]
              refine ⟨li6.rows _ mz, fun en => ?_⟩
              have := isThing_pos (li6.kn.th _ mz).1
              dsimp only at this
              rw [en] at this; simp at this
          · have li6 := li5.kpN k6 (fun l m => nomatch m)
            cases hz : lkA ks l with
            | none => exact absurd hz (hlk l (srtL_mem.mpr ml))
            | some z => exact ⟨a, mx, dR, dE, dx, l, z, ks, rfl, li6.ha, li6.hR, hz, by show V.ref z.1 = V.ref ((lkA ks l).getD (0, [])).1; rw [hz]; rfl, rfl⟩
          · have li7 := (li5.kpN k6 (fun l m => nomatch m)).kpN k7 (fun l m => nomatch m)
            have hD7 := k7.at0 (k6.at0 hD5)
            have hFD7 := k7.at0 (k6.at0 hFD)
            have k07 := (k05.tr0 k6).tr0 k7
            have nFS : SL ≠ FD := (ne_of_none (k6.at0 hFD) nSL).symm
            have hSL7 : H7 SL = some (.lst ((srtL ks lv).map V.int)) := hSL
            clear k6 k7 k05 hD5 hFD hLV5 li5 hSL nSL
            refine ⟨SL, _, rfl, Z.SqL.of' hSL7, fun t σ H' => ∃ (fd : Fo) (v6 v7 v8 : Option V), σ = [some (.ref a), some (.int s), some (.int e), some (.ref D), some (.ref LV), some (.ref FD), v6, v7, v8] ∧ Kp [FD] H7 H' ∧ H' FD = some (.dK (kvF fd)) ∧ fd = ((srtL ks lv).take t).foldl (foldF ks qs fo) [], ⟨[], _, _, _, rfl, Kp.refl _ _, hFD7, rfl⟩, ?_, ?_, ?_⟩
            · rintro t σ' H' _ ⟨fd, v6, v7, v8, rfl, k, _⟩
              exact Z.SqL.of' (k.at1 nFS hSL7)
            · rintro t y σ' H8 hy ⟨fd, v6, v7, v8, rfl, k8, hFD8, efd⟩
              rw [List.getElem?_map] at hy
              obtain ⟨later, el, rfl⟩ := Option.map_eq_some_iff.mp hy
              have ml := List.mem_of_getElem? el
              have fdk : FdOk ks qs fo fd lv := by rw [efd]; exact FdOk.round _ (fun l m => srtL_mem.mp (List.mem_of_mem_take m)) .nil
              have tk : ((srtL ks lv).take (t + 1)).foldl (foldF ks qs fo) [] = foldF ks qs fo fd later := by
                rw [List.take_add_one, el, List.foldl_append, ← efd]; rfl
              have k08 : Kp [FD] H H8 := (k07.wk (fun l m => nomatch m)).tr k8 (fun l m => .inl m)
              have li8 : LibRd X.K T.C_Library T.C_Mixing H8 a dx mx dR dE n f ks qs := li.kpN k08 (fun l m => by rw [List.mem_singleton.mp m]; exact nFD0)
              have hD8 := k8.at1 nDF hD7
              have hid8 : Kp [FD] H7 H8 ∧ Kp [FD] H H8 := ⟨k8, k08⟩
              clear k8 k08
              cases hz : lkA ks later with
              | none => exact absurd hz (hlk later ml)
              | some z =>
                refine xg_name C (by wtm_at "m") (by wtm_at "m") ?_
                refine ⟨_, by wtm_at "u", ?_⟩
                refine xb_cons ?_
                refine xs_forL C ?_
                wtm_at "w"
                refine xe_meth C (ok__links_to T) T.cl_Library (by omega) ?_
                wtm_at "w"
                refine ⟨a, dx, _, rfl, li8.ha, lib_no mx dR dE (by decide +kernel) (by decide +kernel) (by decide +kernel), ?_⟩
                wtm_at "w"
                refine ⟨a, mx, dR, dE, dx, z.1, n, f, later, z.2, ks, qs, rfl, li8, hz, fun L us H9 k9 nL hL dL => ?_⟩
                have lu := dpAll_len dL
                rw [List.length_map] at lu
                have hFD9 := k9.at0 hFD8
                have hD9 := k9.at0 hD8
                have nLF : L ≠ FD := (ne_of_none hFD8 nL).symm
                have hid9 : Kp [FD] H7 H9 ∧ Kp [FD] H H9 := ⟨hid8.1.tr0 k9, hid8.2.tr0 k9⟩
                have hlin : ∀ x ∈ linksP ks qs later, x ∈ linksP ks qs later := fun _ m => m
                rw [foldF] at tk
                generalize hls : linksP ks qs later = ls at dL lu tk
                clear k9 hid8 hFD8 hD8 li8 nL
                refine ⟨L, us, rfl, Z.SqL.of' hL, fun j σ H' => ∃ (fd' : Fo) (v7 v8 : Option V), σ = [some (.ref a), some (.int s), some (.int e), some (.ref D), some (.ref LV), some (.ref FD), some (.int later), v7, v8] ∧ Kp [FD] H9 H' ∧ H' FD = some (.dK (kvF fd')) ∧ fd' = (ls.take j).foldl (addF fo later) fd, ⟨fd, _, _, rfl, Kp.refl _ _, hFD9, by rw [List.take_zero]; rfl⟩, ?_, ?_, ?_⟩
                · rintro j σ' H' _ ⟨fd', v7, v8, rfl, k, _⟩
                  exact Z.SqL.of' (k.at1 nLF hL)
                · rintro j y σ' H10 hy ⟨fd', v7, v8, rfl, k10, hFD10, efd'⟩
                  have hj : j < ls.length := by rw [← lu]; exact (List.getElem?_eq_some_iff.mp hy).1
                  have ej := List.getElem?_eq_getElem hj
                  have tj : (ls.take (j + 1)).foldl (addF fo later) fd = addF fo later fd' ls[j] := by
                    rw [List.take_add_one, ej, List.foldl_append, ← efd']; rfl
                  obtain ⟨y', hy', dy⟩ := dpAll_at (dpAll_kpT k10 (noL_hD _) dL) (i := j) (d := hD ls[j]) (by rw [List.getElem?_map, ej]; rfl)
                  have ey : y' = y := Option.some.inj (hy'.symm.trans hy)
                  subst ey
                  have fdk' : FdOk ks qs fo fd' lv := by
                    rw [efd']
                    exact FdOk.row (srtL_mem.mp ml) _ (fun x m => by rw [hls]; exact List.mem_of_mem_take m) fdk
                  have lfd := fdk'.len
                  generalize ls[j] = hx at dy tj
                  obtain ⟨sa, vs2, rfl, hsa, da⟩ := dp_tupI dy
                  obtain ⟨x1, x2, rfl, g1, g2⟩ := dpAll2 da
                  rw [dp_intI g1] at hsa
                  have hD10 := k10.at1 nDF hD9
                  clear dy da g1 g2
                  refine xg_tup C ⟨sa, _, rfl, hsa, rfl, ?_⟩
                  wtm_at "w"
                  refine vo_notInD C (o := (lkF fo hx.1).map V.int) (.inl ⟨_, .inl hx.1, .inl hD10, rfl, (valV_kvF hx.1 fo).symm⟩) ?_
                  cases h1 : lkF fo hx.1 with
                  | some y =>
                    have ea : addF fo later fd' hx = fd' := by unfold addF; rw [if_neg (fun z => by rw [h1] at z; cases z.1)]
                    wtm_at "w"
                    refine L2.iteF ?_
                    refine L2.iteF ?_
                    repeat refine xb_nil ?_
                    exact ⟨fd', _, _, rfl, k10, hFD10, by rw [tj, ea]⟩
                  | none =>
                    wtm_at "w"
                    refine L2.iteT ?_
                    wtm_at "w"
                    refine vo_notInD C (o := (lkF fd' hx.1).map V.int) (.inl ⟨_, .inl hx.1, .inl hFD10, rfl, (valV_kvF hx.1 fd').symm⟩) ?_
                    cases h2 : lkF fd' hx.1 with
                    | some y =>
                      have ea : addF fo later fd' hx = fd' := by unfold addF; rw [if_neg (fun z => by rw [h2] at z; cases z.2)]
                      wtm_at "w"
                      refine L2.iteF ?_
                      repeat refine xb_nil ?_
                      exact ⟨fd', _, _, rfl, k10, hFD10, by rw [tj, ea]⟩
                    | none =>
                      have ea : addF fo later fd' hx = fd' ++ [(hx.1, later)] := by unfold addF; rw [if_pos ⟨h1, h2⟩]
                      have vn : valV (kvF fd') (.inl hx.1) = none := by rw [valV_kvF, h2]; rfl
                      wtm_at "w"
                      refine L2.iteT ?_
                      refine xb_cons ?_
                      refine xs_dput C ?_
                      wtm_at "w"
                      refine ⟨FD, _, .inl hx.1, rfl, rfl, hFD10, szl (by unfold kvF; rw [List.length_map]; omega), fun H11 k11 h11 => ?_⟩
                      rw [putK_new _ vn, ← kvF_app] at h11
                      repeat refine xb_nil ?_
                      exact ⟨_, _, _, rfl, k10.tr k11 (fun l m => .inl m), h11, by rw [tj, ea]⟩
                · rintro σ' H10 ⟨fd', v7, v8, rfl, k10, hFD10, efd'⟩
                  rw [lu, List.take_length] at efd'
                  refine xb_nil ?_
                  exact ⟨fd', _, _, _, rfl, hid9.1.tr k10 (fun l m => .inl m), hFD10, by rw [tk, efd']⟩
            · rintro σ' H8 ⟨fd, v6, v7, v8, rfl, k8, hFD8, efd⟩
              rw [List.length_map, List.take_length] at efd
              have k08 : Kp [FD] H H8 := (k07.wk (fun l m => nomatch m)).tr k8 (fun l m => .inl m)
              have hD8 := k8.at1 nDF hD7
              have efr : roundF ks qs fo (srtL ks lv) = fd := by rw [roundF_eq, efd]
              have fdk : FdOk ks qs fo fd lv := by rw [← efr]; exact FdOk.round _ (fun l m => srtL_mem.mp m) .nil
              have fok' : FoOk ks qs e (fo ++ fd) := fok.step fdk hlv
              have lf' := fok'.len
              rw [List.length_append] at lf'
              clear k8 hD7 hFD7 hSL7
              refine xb_cons ?_
              refine xs_expr ?_
              refine xe_dupdate ?_
              wtm_at "w"
              refine ⟨hD8, FD, _, rfl, hFD8, nDF, sz_ (by unfold kvF; rw [List.length_map, List.length_map]; omega), fun x mx => ?_, fun H9 k9 h9 => ?_⟩
              · unfold kvF at mx ⊢
                obtain ⟨p, mp, rfl⟩ := List.mem_map.mp mx
                intro m2
                rw [List.map_map] at m2
                obtain ⟨p2, mp2, e2⟩ := List.mem_map.mp m2
                have e3 : p2.1 = p.1 := Sum.inl.inj e2
                exact lkF_none.mp (fdk.new p mp) (by rw [← e3]; exact List.mem_map_of_mem mp2)
              · have h9' : H9 D = some (.dK (kvF (fo ++ fd))) := by rw [h9]; unfold kvF; rw [List.map_append]
                have hFD9 := k9.at1 (Ne.symm nDF) hFD8
                have k09 : Kp [D, FD] H H9 := (k08.wk (fun l m => List.mem_cons_of_mem _ m)).tr k9 (fun l m => .inl (by rw [List.mem_singleton.mp m]; simp))
                clear k9 k08 h9 hD8 hFD8
                wtm_at "w"
                refine vc_listD C hFD9 (fun LV' H10 k10 nLV' hLV' => ?_)
                have k010 : Kp [] H H10 := ((Kp.refl [] H).tr k09 (fun l m => .inr (by
                  simp only [List.mem_cons, List.not_mem_nil, or_false] at m
                  rcases m with rfl | rfl
                  · exact nD
                  · exact nFD0))).tr0 k10
                have nLV0' := k09.n _ nLV'
                have hlv2 : ((kvF fd).map fun kv => kV kv.1) = (fd.map (·.1)).map V.int := by unfold kvF; rw [List.map_map, List.map_map]; rfl
                rw [hlv2] at hLV'
                have mu1 : 1 ≤ muF ks fo lv := by unfold muF; rw [if_neg l0]; omega
                obtain ⟨fuel', rfl⟩ : ∃ k, fuel = k + 1 := ⟨fuel - 1, by omega⟩
                have ef2 : followF ks qs s (fuel' + 1) fo lv = followF ks qs s fuel' (fo ++ fd) (fd.map (·.1)) := by
                  rw [followF, if_neg (fun z => z.elim l0 (fun w => w hs)), efr]
                have mlt : muF ks (fo ++ fd) (fd.map (·.1)) < muF ks fo lv := by
                  unfold muF
                  rw [if_neg l0, List.length_append]
                  cases fd with
                  | nil => simp
                  | cons p r =>
                    rw [if_neg (by simp)]
                    rw [List.length_cons] at lf' ⊢
                    omega
                wtm_at "w"
                refine ⟨muF ks (fo ++ fd) (fd.map (·.1)), by rw [em]; exact mlt, fo ++ fd, fd.map (·.1), LV', fuel', _, _, _, _, rfl, rfl, by omega, by rw [efu, ef2], fok', fun l m => ?_, by rw [List.length_map]; omega, k010, k10.at0 h9', hLV', nLV0'⟩
                rw [List.map_append]; exact List.mem_append_right _ m
end
/-! pathW -/
section
local macro_rules | `(tactic| wtm_at "d") => `(tactic| first | ((with_reducible show Z.XE _ (PySem.Expr.Call (PySem.Expr.Name "digest_of" _) (_ :: _) [] _) _ _ _); refine Z.xe_call (by assumption) (Law.ok_digest_of T) (by wtm_at "m") (by omega) ?_) | ((with_reducible show Z.XE _ (PySem.Expr.Call (PySem.Expr.Name "Paper" _) (_ :: _) [] _) _ _ _); refine Z.xe_make (by assumption) (Law.ok_Paper T) (by wtm_at "m") (by omega) ?_) | fail)
/-! path: the chain of what follows -/
def stepOf (n f : Int) (ks qs : KA') (m later : Int) : Stp := (rwOf ks later, ((firstL ks qs m later).map (placeP n f qs later)).getD ⟨"", 0, []⟩)
def chainP (n f : Int) (ks qs : KA') (fo : Fo) (e : Int) : Nat → Int → List Stp
  | 0, _ => []
  | k + 1, m => if m = e then [] else stepOf n f ks qs m ((lkF fo m).getD 0) :: chainP n f ks qs fo e k ((lkF fo m).getD 0)
theorem chainP_end {n f : Int} {ks qs : KA'} {fo : Fo} {e : Int} : ∀ k, chainP n f ks qs fo e k e = []
  | 0 => rfl
  | k + 1 => by rw [chainP, if_pos rfl]
theorem lkF_nd : ∀ {fo : Fo}, (fo.map (·.1)).Nodup → ∀ {i : Nat} {p : Int × Int}, fo[i]? = some p → lkF fo p.1 = some p.2
  | [], _, i, p, h => by simp at h
  | q :: r, nd, 0, p, h => by
    have e : q = p := by simpa using h
    rw [lkF, e, if_pos rfl]
  | q :: r, nd, i + 1, p, h => by
    rw [List.map_cons, List.nodup_cons] at nd
    rw [List.getElem?_cons_succ] at h
    rw [lkF, if_neg (fun z => nd.1 (by rw [z]; exact List.mem_map_of_mem (List.mem_of_getElem? h)))]
    exact lkF_nd nd.2 h
theorem firstL_some {ks qs : KA'} {m later : Int} (h : ∃ x ∈ linksP ks qs later, x.1 = m) : ∃ x, firstL ks qs m later = some x ∧ x ∈ linksP ks qs later ∧ x.1 = m := by
  obtain ⟨x, hx, e⟩ := h
  unfold firstL
  cases hf : (linksP ks qs later).find? (fun x => decide (x.1 = m)) with
  | none =>
    have := List.find?_eq_none.mp hf x hx
    exact absurd (decide_eq_true e) this
  | some y => exact ⟨y, rfl, List.mem_of_find?_eq_some hf, of_decide_eq_true (List.find?_some (p := fun (x : Int × Str × Int) => decide (x.1 = m)) hf)⟩
def folP (ks qs : KA') (m e : Int) : Fo := followF ks qs m (2 * ks.length + 2) [(e, e)] [e]
def pathP (n f : Int) (ks qs : KA') (m e : Int) : Option (List Stp) := if lkF (folP ks qs m e) m = none then none else some (chainP n f ks qs (folP ks qs m e) e (folP ks qs m e).length m)
def sp_path (K : PySem.W.Frag) (CL CM CP : Addr) : Sp := fun vs H Q _ => ∃ (a mx dR dE dx sa ea : Addr) (n f : Int) (srow erow : List Int) (ks qs : KA'), vs = [.ref a, .ref sa, .ref ea] ∧ LibRd K CL CM H a dx mx dR dE n f ks qs ∧ 0 < n ∧ SqT K H sa (srow.map V.int) ∧ SqT K H ea (erow.map V.int) ∧ lkA ks (dig n f erow) ≠ none ∧ ks.length ≤ 1000 ∧
  (pathP n f ks qs (dig n f srow) (dig n f erow) = none → ∀ H', Kp [] H H' → Q .non H') ∧ (∀ ss, pathP n f ks qs (dig n f srow) (dig n f erow) = some ss → FoOk ks qs (dig n f erow) (folP ks qs (dig n f srow) (dig n f erow)) → ∀ p H', Kp [] H H' → H p = none → PapN K CP H H' p sa srow (ss.map stpD) → Q (.ref p) H')
theorem ok_path (T : Txt P w K mg base) : MetOk P w K mg base T.C_Library "path" ["self", "start", "end"] 18 (sp_path K T.C_Library T.C_Mixing T.C_Paper) := by
  obtain ⟨fn, fd, M, F, bi⟩ := T.m_Library_path
  refine ⟨fn, fd, fnOk_by F sc_Library_path oc_Library_path (fun vs H Q E h => ?_) (fun X e1 e2 e3 e4 e5 C H vs Q E h => ?_), M, bi⟩
  · obtain ⟨a, mx, dR, dE, dx, sa, ea, n, f, srow, erow, ks, qs, rfl, _⟩ := h; rfl
  · obtain ⟨a, mx, dR, dE, dx, sa, ea, n, f, srow, erow, ks, qs, rfl, li, hn, hsa, hea, he, lk, q1, q2⟩ := h
    wtm_at "go"
    wtm_at "w"
    refine xe_fld ?_
    wtm_at "w"
    refine ⟨a, _, dx, _, _, rfl, li.ha, T.cl_Library, T.na_Library_mixing, lib_m mx dR dE, ?_⟩
    wtm_at "w"
    refine ⟨mx, sa, n, f, srow, rfl, li.hx, hsa, hn, ?_⟩
    wtm_at "w"
    refine xe_fld ?_
    wtm_at "w"
    refine ⟨a, _, dx, _, _, rfl, li.ha, T.cl_Library, T.na_Library_mixing, lib_m mx dR dE, ?_⟩
    wtm_at "w"
    refine ⟨mx, ea, n, f, erow, rfl, li.hx, hea, hn, ?_⟩
    unfold pathP at q1 q2
    generalize dig n f srow = m0 at q1 q2
    generalize dig n f erow = e at q1 q2 he
    wtm_at "w"
    refine xe_meth C (ok__following T) T.cl_Library (by omega) ?_
    wtm_at "w"
    refine ⟨a, dx, _, rfl, li.ha, lib_no mx dR dE (by decide +kernel) (by decide +kernel) (by decide +kernel), ?_⟩
    wtm_at "w"
    refine ⟨a, mx, dR, dE, dx, n, f, m0, e, ks, qs, rfl, li, he, lk, fun D fo H1 k1 nD hD efo fok => ?_⟩
    rw [show folP ks qs m0 e = fo from efo.symm] at q1 q2
    have lfo := fok.len
    wtm_at "w"
    refine vo_notInD C (o := (lkF fo m0).map V.int) (.inl ⟨_, .inl m0, .inl hD, rfl, (valV_kvF m0 fo).symm⟩) ?_
    cases h0 : lkF fo m0 with
    | none =>
      wtm_at "w"
      refine L2.iteT ?_
      wtm_at "w"
      exact q1 (by rw [if_pos h0]) H1 k1
    | some y0 =>
      have q2 := q2 _ (by rw [if_neg (by rw [h0]; simp)]) fok
      wtm_at "w"
      refine L2.iteF ?_
      wtm_at "w"
      intro S H2 k2 nS hS
      have nS0 := k1.n _ nS
      have k02 := k1.tr0 k2
      have hD2 := k2.at0 hD
      have nDS : D ≠ S := ne_of_none hD nS
      clear k2 k1 hD nS
      obtain ⟨i0, hi0⟩ := List.getElem?_of_mem (lkF_mem h0)
      have il0 := (List.getElem?_eq_some_iff.mp hi0).1
      wtm_at "w"
      refine xs_while C (fun m' σ H' => ∃ (m y : Int) (i fuel : Nat) (us : List V) (dn : List Stp) (v7 : Option V), σ = [some (.ref a), some (.ref sa), some (.ref ea), some (.int m), some (.int e), some (.ref D), some (.ref S), v7] ∧ m' = i ∧ fo[i]? = some (m, y) ∧ i ≤ fuel ∧ chainP n f ks qs fo e fo.length m0 = dn ++ chainP n f ks qs fo e fuel m ∧ Kp [] H H' ∧ H' D = some (.dK (kvF fo)) ∧ H' S = some (.lst us) ∧ DpAll X.K H' us (dn.map stpD) ∧ dn.length + i ≤ fo.length) ⟨_, m0, y0, i0, fo.length, [], [], _, rfl, rfl, hi0, by omega, rfl, k02, hD2, hS, .nil, by simp; omega⟩ ?_
      clear k02 hD2 hS hi0 il0
      rintro m' σ' H3 ⟨m, y, i, fuel, us, dn, v7, rfl, em, hi, lef, ech, k3, hD3, hS3, dus, ldn⟩
      have li3 := li.kpN k3 (fun l m => nomatch m)
      have hlm := lkF_nd fok.nd hi
      dsimp only at hlm
      have lus := dpAll_len dus
      rw [List.length_map] at lus
      wtm_at "w"
      refine ite_nd (fun hne => ?_) (fun heq => ?_)
      · have ip : 0 < i := by
          rcases Nat.eq_zero_or_pos i with z | z
          · rw [z, fok.hd] at hi
            exact absurd (Prod.mk.inj (Option.some.inj hi)).1.symm hne
          · exact z
        obtain ⟨⟨j, qq, hj, hq, eq1⟩, hx⟩ := fok.lnk i _ ip hi
        dsimp only at eq1 hx
        obtain ⟨x, hfx, hxm, ex⟩ := firstL_some hx
        have hky := (linksP_known hxm).2
        cases hz : lkA ks y with
        | none => exact absurd hz hky
        | some z =>
          have erw : rwOf ks y = z.2 := by unfold rwOf; rw [hz]
          obtain ⟨fuel', rfl⟩ : ∃ k, fuel = k + 1 := ⟨fuel - 1, by omega⟩
          have est : chainP n f ks qs fo e (fuel' + 1) m = (z.2, placeP n f qs y x) :: chainP n f ks qs fo e fuel' y := by
            rw [chainP, if_neg hne, hlm]
            show stepOf n f ks qs m y :: _ = _
            unfold stepOf
            rw [erw, hfx]; rfl
          have hzr := li3.rows _ (lkA_mem hz)
          dsimp only at hzr
          wtm_at "w"
          refine vx_dict C (.inl ⟨_, .inl m, .inl hD3, rfl, by rw [valV_kvF, hlm]; rfl⟩) ?_
          wtm_at "w"
          refine xe_fld ?_
          wtm_at "w"
          refine ⟨a, _, dx, _, _, rfl, li3.ha, T.cl_Library, T.na_Library__rows, lib_r mx dR dE, ?_⟩
          wtm_at "w"
          refine vx_dict C (li3.hR.get hz) ?_
          wtm_at "w"
          refine xe_meth C (ok__first_place T) T.cl_Library (by omega) ?_
          wtm_at "w"
          refine ⟨a, dx, _, rfl, li3.ha, lib_no mx dR dE (by decide +kernel) (by decide +kernel) (by decide +kernel), ?_⟩
          wtm_at "w"
          refine ⟨a, mx, dR, dE, dx, n, f, m, y, z, x, ks, qs, rfl, li3, hn, hz, hfx, fun v H4 k4 hv => ?_⟩
          have k04 := k3.tr0 k4
          have hD4 := k4.at0 hD3
          have hS4 := k4.at0 hS3
          have hzr4 := k4.tup hzr
          have dus4 := dpAll_kp k4 dus
          clear k4 k3 hD3 hS3 hzr dus li3
          wtm_at "w"
          intro tp H5 k5 htp _
          refine ⟨k5.at0 hS4, szl (by omega), fun H6 k6 h6 => ?_⟩
          have k06 : Kp [] H H6 := (k04.tr0 k5).tr1 k6 (.inr nS0)
          wtm_at "w"
          refine ⟨j, by rw [em]; exact hj, y, qq.2, j, fuel', us ++ [.ref tp], dn ++ [(z.2, placeP n f qs y x)], _, rfl, rfl, by rw [hq, ← eq1], by omega, by rw [ech, est, List.append_assoc]; rfl, k06, k6.at1 nDS (k5.at0 hD4), h6, ?_, by rw [List.length_append, List.length_singleton]; omega⟩
          rw [List.map_append]
          have noS : ∀ l : List Stp, noLs (l.map stpD) = true := fun l => by
            induction l with
            | nil => rfl
            | cons s r ih =>
              rw [List.map_cons, noLs, ih]
              unfold stpD plD
              split <;> simp [noL, noLs, noLs_ints]
          exact dpAll_app (dpAll_kpT k6 (noS _) (dpAll_kp k5 dus4)) (.cons (.tup (k6.tup htp) (.cons (dp_T (k6.tup (k5.tup hzr4))) (.cons (dp_kpT k6 (by unfold plD; split <;> simp [noL, noLs, noLs_ints]) (dp_kp k5 hv)) .nil))) .nil)
      · have hem : m = e := heq
        rw [hem, chainP_end, List.append_nil] at ech
        rw [ech] at q2
        have hsa3 := k3.tup hsa
        wtm_at "w"
        intro p6 dx6 nz nd nne
        refine ⟨p6, dx6, S, .ref sa, _, rfl, upd_same, Z.SqL.of' ((Kp.made nz nd nne).at0 hS3), fun st' H7 k7 e7 n7 h7 => ⟨rfl, ?_⟩⟩
        have k37 : Kp [] H3 H7 := (Kp.made nz nd nne).tr1 k7 (.inr nz)
        exact q2 p6 H7 (k3.tr0 k37) (k3.n _ nz) ⟨dx6, st', _, e7, h7, dpAll_kp k37 dus, k37.tup hsa3, k3.n _ ((Kp.made nz nd nne).n _ n7)⟩
end
/-! linkW -/
/-! a chain of links -/
def LinkW (n f : Int) (ks qs : KA') : Int → List Stp → Int → Prop
  | m, [], e => m = e
  | m, s :: r, e => ∃ (later : Int) (z : Addr × List Int) (x : Int × Str × Int), lkA ks later = some z ∧ s = (z.2, placeP n f qs later x) ∧ x ∈ linksP ks qs later ∧ x.1 = m ∧ LinkW n f ks qs later r e
theorem chain_link {n f : Int} {ks qs : KA'} {fo : Fo} {e : Int} (h : FoOk ks qs e fo) : ∀ (fuel i : Nat) (m y : Int), fo[i]? = some (m, y) → i ≤ fuel → LinkW n f ks qs m (chainP n f ks qs fo e fuel m) e
  | 0, i, m, y, hi, hl => by
    have : i = 0 := by omega
    rw [this, h.hd] at hi
    exact (Prod.mk.inj (Option.some.inj hi)).1.symm
  | k + 1, i, m, y, hi, hl => by
    rw [chainP]
    by_cases hne : m = e
    · rw [if_pos hne]; exact hne
    · rw [if_neg hne]
      have ip : 0 < i := by
        rcases Nat.eq_zero_or_pos i with z | z
        · rw [z, h.hd] at hi
          exact absurd (Prod.mk.inj (Option.some.inj hi)).1.symm hne
        · exact z
      obtain ⟨⟨j, qq, hj, hq, eq1⟩, hx⟩ := h.lnk i _ ip hi
      dsimp only at eq1 hx
      have hlm := lkF_nd h.nd hi
      dsimp only at hlm
      obtain ⟨x, hfx, hxm, ex⟩ := firstL_some hx
      have hky := (linksP_known hxm).2
      rw [hlm]
      cases hz : lkA ks y with
      | none => exact absurd hz hky
      | some z =>
        refine ⟨y, z, x, hz, ?_, hxm, ex, chain_link h k j y qq.2 (by rw [hq, ← eq1]) (by omega)⟩
        show stepOf n f ks qs m y = _
        unfold stepOf rwOf
        rw [hz, hfx]; rfl
theorem path_link {n f : Int} {ks qs : KA'} {m e : Int} {ss : List Stp} (h : pathP n f ks qs m e = some ss) (fok : FoOk ks qs e (folP ks qs m e)) : LinkW n f ks qs m ss e := by
  unfold pathP at h
  cases h0 : lkF (folP ks qs m e) m with
  | none => rw [if_pos h0] at h; cases h
  | some y =>
    rw [if_neg (by rw [h0]; simp)] at h
    have := Option.some.inj h
    subst this
    obtain ⟨i, hi⟩ := List.getElem?_of_mem (lkF_mem h0)
    exact chain_link fok _ i m y hi (Nat.le_of_lt (List.getElem?_eq_some_iff.mp hi).1)
/-- one link is a right step -/
theorem link_step {n f : Int} {ks qs : KA'} (kn : Know n f ks qs) {later : Int} {z b : Addr × List Int} {x : Int × Str × Int} (hz : lkA ks later = some z) (hx : x ∈ linksP ks qs later) (hb : lkA ks x.1 = some b) : stepWhy n f b.2 z.2 (placeP n f qs later x) = none := by
  obtain ⟨hh, hl⟩ := linksP_in hz hx
  have mz := lkA_mem hz
  obtain ⟨th, ro, _⟩ := kn.th _ mz
  dsimp only at th ro
  have db : x.1 = dig n f b.2 := kn.ky _ (lkA_mem hb)
  have hrr : rrB b.2 z.2 ⟨x.2.1, x.2.2, []⟩ = true := by
    unfold linkB at hl
    rw [hb] at hl; exact hl
  have hrr' : rrB b.2 z.2 (placeP n f qs later x) = true := hrr
  have fin : hasPl z.2 (placeP n f qs later x) = true → holdsB n f z.2 (placeP n f qs later x) (dig n f b.2) = true → stepWhy n f b.2 z.2 (placeP n f qs later x) = none := fun h1 h2 => by
    unfold stepWhy
    rw [if_pos th, if_pos h1, if_pos h2, if_pos hrr']
  have flat : ∀ (w : Str), ¬ w = ("entry" : Str) → x.2.1 = w → 0 ≤ x.2.2 → x.2.2.toNat < (listN z.2 w).length → x.1 = (listN z.2 w).getD x.2.2.toNat 0 → stepWhy n f b.2 z.2 (placeP n f qs later x) = none := fun w hw e1 e2 e3 e4 => by
    have hp : hasPl z.2 (placeP n f qs later x) = true := by
      unfold hasPl placeP
      dsimp only
      rw [e1, if_neg hw]
      exact decide_eq_true ⟨e2, by omega⟩
    refine fin hp ?_
    unfold holdsB heldO
    rw [hp]
    show (if x.2.1 = ("entry" : Str) then _ else _) = true
    rw [e1, if_neg hw, if_neg (fun c => c.elim (fun y => hw (by rw [← e1]; exact y)) (fun y => nomatch y))]
    refine decide_eq_true ?_
    show some ((listN z.2 x.2.1).getD x.2.2.toNat 0) = some (dig n f b.2)
    rw [e1, ← e4, db]
  have hh0 := hh
  unfold heldL at hh
  rcases List.mem_append.mp hh with hh | hh
  · rcases List.mem_append.mp hh with hh | hh
    · obtain ⟨a1, a2, a3, a4⟩ := enumN_in (w' := "") hh
      exact flat "cite" (by decide +kernel) a1 a2 a3 a4
    · obtain ⟨a1, a2, a3, a4⟩ := enumN_in (w' := "") hh
      exact flat "back" (by decide +kernel) a1 a2 a3 a4
  · obtain ⟨a1, a2, a3, a4⟩ := enumN_in (w' := "") hh
    obtain ⟨c1, c2, c3, c4⟩ := entOk kn hz hh0 a1
    have r4 : z.2.getD 0 0 = 4 := by
      by_cases r4 : z.2.getD 0 0 = 4
      · exact r4
      · exact absurd (kn.no _ mz r4) c1
    obtain ⟨c, es, e1, e2, e3, e4, e5⟩ := kn.hd _ mz r4
    dsimp only at e1 e2 e3
    have ee : esOf qs later = es := by unfold esOf; rw [e1]
    rw [ee] at c3 a4
    have hp : hasPl z.2 (placeP n f qs later x) = true := by
      unfold hasPl placeP
      dsimp only
      rw [if_pos a1]
      exact decide_eq_true ⟨r4, a2, by omega⟩
    refine fin hp ?_
    unfold holdsB
    rw [hp]
    have hw : (placeP n f qs later x).w = ("entry" : Str) := a1
    rw [if_pos hw, Bool.true_and]
    refine decide_eq_true ?_
    have ew : (placeP n f qs later x).way = wy n f es x.2.2.toNat := by
      unfold placeP
      dsimp only
      rw [if_pos a1, ee]
    have ei : (placeP n f qs later x).i = x.2.2 := rfl
    rw [ew, ei, ← e2, ← e3]
    show climbO n f ((es.length : Int)).toNat x.2.2.toNat (dig n f b.2) (wy n f es x.2.2.toNat) = some (rt n f es)
    rw [Int.toNat_natCast]
    unfold climbO
    rw [if_pos (wy_len n f _ es x.2.2.toNat (Nat.le_refl _)).symm]
    congr 1
    refine cl_wy n f es.length es x.2.2.toNat _ (Nat.le_refl _) ?_
    rw [← db, a4, List.getD_eq_getElem?_getD, List.getElem?_eq_getElem c3]; rfl
/-- the chain is a right way -/
theorem link_ok {n f : Int} {ks qs : KA'} (kn : Know n f ks qs) : ∀ (ss : List Stp) (m e : Int) (b : Addr × List Int), lkA ks m = some b → LinkW n f ks qs m ss e → okW n f b.2 ss ∧ (∃ za, lkA ks e = some (za, lastR b.2 ss)) ∧ (∀ s ∈ ss, ∃ za, lkA ks (dig n f s.1) = some (za, s.1))
  | [], m, e, b, hb, h => by
    have h : m = e := h
    subst h
    exact ⟨trivial, ⟨b.1, hb⟩, fun s m => absurd m List.not_mem_nil⟩
  | s :: r, m, e, b, hb, h => by
    obtain ⟨later, z, x, hz, es, hx, ex, hr⟩ := h
    obtain ⟨i1, i2, i3⟩ := link_ok kn r later e z hz hr
    have st := link_step kn hz hx (by rw [ex]; exact hb)
    subst es
    refine ⟨⟨st, i1⟩, i2, fun s' m' => ?_⟩
    rcases List.mem_cons.mp m' with rfl | m'
    · have dz : later = dig n f z.2 := kn.ky _ (lkA_mem hz)
      exact ⟨z.1, by show lkA ks (dig n f z.2) = some (z.1, z.2); rw [← dz, hz]⟩
    · exact i3 s' m'
/-- a way from a row to itself is empty or not: its length says whether it moves -/
theorem link_nil {n f : Int} {ks qs : KA'} {m e : Int} (h : LinkW n f ks qs m [] e) : m = e := h
theorem chainP_len {n f : Int} {ks qs : KA'} {fo : Fo} {e : Int} : ∀ (k : Nat) (m : Int), (chainP n f ks qs fo e k m).length ≤ k
  | 0, m => Nat.le_refl _
  | k + 1, m => by
    rw [chainP]
    split
    · exact Nat.zero_le _
    · rw [List.length_cons]
      have := chainP_len (n := n) (f := f) (ks := ks) (qs := qs) (fo := fo) (e := e) k ((lkF fo m).getD 0)
      omega
theorem path_len {n f : Int} {ks qs : KA'} {m e : Int} {ss : List Stp} (h : pathP n f ks qs m e = some ss) (fok : FoOk ks qs e (folP ks qs m e)) : ss.length ≤ ks.length := by
  unfold pathP at h
  split at h
  · cases h
  · have := Option.some.inj h
    subst this
    exact Nat.le_trans (chainP_len _ _) fok.len
theorem LinkW.app {n f : Int} {ks qs : KA'} : ∀ {a b : List Stp} {m e e2 : Int}, LinkW n f ks qs m a e → LinkW n f ks qs e b e2 → LinkW n f ks qs m (a ++ b) e2
  | [], b, m, e, e2, h, g => by
    have h : m = e := h
    rw [h]; exact g
  | s :: a, b, m, e, e2, ⟨later, z, x, h1, h2, h3, h4, h5⟩, g => ⟨later, z, x, h1, h2, h3, h4, h5.app g⟩
/-! cloF -/
/-! breadth first finds every row from which links lead to the end -/
theorem lkF_or {a b : Fo} {x : Int} (h : lkF a x ≠ none ∨ lkF b x ≠ none) : lkF (a ++ b) x ≠ none := by
  rw [lkF_app]
  cases e : lkF a x with
  | some y => simp
  | none => rw [e] at h; exact h.elim (fun z => absurd rfl z) (fun z => by simpa using z)
theorem addF_keep {fo fd : Fo} {later : Int} {y : Int × Str × Int} {x : Int} (h : lkF fd x ≠ none) : lkF (addF fo later fd y) x ≠ none := by
  unfold addF
  split
  · exact lkF_or (.inl h)
  · exact h
theorem addF_has {fo fd : Fo} {later : Int} {y : Int × Str × Int} : lkF fo y.1 ≠ none ∨ lkF (addF fo later fd y) y.1 ≠ none := by
  unfold addF
  by_cases h : lkF fo y.1 = none ∧ lkF fd y.1 = none
  · rw [if_pos h]
    refine .inr (lkF_or (.inr ?_))
    rw [lkF, if_pos rfl]; simp
  · rw [if_neg h]
    by_cases h1 : lkF fo y.1 = none
    · exact .inr (fun z => h ⟨h1, z⟩)
    · exact .inl h1
theorem rowF_keep {fo : Fo} {later x : Int} : ∀ (ls : List (Int × Str × Int)) {fd : Fo}, lkF fd x ≠ none → lkF (ls.foldl (addF fo later) fd) x ≠ none
  | [], _, h => h
  | y :: r, _, h => rowF_keep r (addF_keep h)
theorem rowF_has {fo : Fo} {later : Int} : ∀ (ls : List (Int × Str × Int)) {fd : Fo} {y : Int × Str × Int}, y ∈ ls → lkF fo y.1 ≠ none ∨ lkF (ls.foldl (addF fo later) fd) y.1 ≠ none
  | z :: r, fd, y, m => by
    rcases List.mem_cons.mp m with rfl | m
    · rcases addF_has (fo := fo) (fd := fd) (later := later) (y := y) with h | h
      · exact .inl h
      · exact .inr (rowF_keep r h)
    · exact rowF_has r m
theorem roundF_keep {ks qs : KA'} {fo : Fo} {x : Int} : ∀ (ls : List Int) {fd : Fo}, lkF fd x ≠ none → lkF (ls.foldl (foldF ks qs fo) fd) x ≠ none
  | [], _, h => h
  | l :: r, fd, h => roundF_keep r (fd := foldF ks qs fo fd l) (rowF_keep _ h)
theorem roundF_has {ks qs : KA'} {fo : Fo} : ∀ (ls : List Int) {fd : Fo} {l : Int} {y : Int × Str × Int}, l ∈ ls → y ∈ linksP ks qs l → lkF fo y.1 ≠ none ∨ lkF (ls.foldl (foldF ks qs fo) fd) y.1 ≠ none
  | z :: r, fd, l, y, m, hy => by
    rcases List.mem_cons.mp m with rfl | m
    · rcases rowF_has (fo := fo) (later := l) (linksP ks qs l) (fd := fd) hy with h | h
      · exact .inl h
      · exact .inr (roundF_keep r (fd := foldF ks qs fo fd l) h)
    · exact roundF_has r (fd := foldF ks qs fo fd z) m hy
def CloF (ks qs : KA') (fo : Fo) (lv : List Int) : Prop := ∀ p ∈ fo, p.1 ∉ lv → ∀ x ∈ linksP ks qs p.1, lkF fo x.1 ≠ none
theorem followF_clo {ks qs : KA'} {s e : Int} : ∀ (fuel : Nat) (fo : Fo) (lv : List Int), FoOk ks qs e fo → (∀ l ∈ lv, l ∈ fo.map (·.1)) → CloF ks qs fo lv → muF ks fo lv ≤ fuel → (lkF (followF ks qs s fuel fo lv) s ≠ none ∨ CloF ks qs (followF ks qs s fuel fo lv) []) ∧ (followF ks qs s fuel fo lv)[0]? = some (e, e)
  | 0, fo, lv, fok, hlv, hc, hm => by
    have l0 : lv = [] := by
      by_cases h : lv = []
      · exact h
      · unfold muF at hm
        rw [if_neg h] at hm; omega
    rw [followF]
    rw [l0] at hc
    exact ⟨.inr hc, fok.hd⟩
  | k + 1, fo, lv, fok, hlv, hc, hm => by
    by_cases c : lv = [] ∨ lkF fo s ≠ none
    · rw [followF_stop c]
      rcases c with c | c
      · rw [c] at hc
        exact ⟨.inr hc, fok.hd⟩
      · exact ⟨.inl c, fok.hd⟩
    · rw [followF, if_neg c]
      have l0 : lv ≠ [] := fun z => c (.inl z)
      have fdk : FdOk ks qs fo (roundF ks qs fo (srtL ks lv)) lv := FdOk.round _ (fun l m => srtL_mem.mp m) .nil
      have fok' := fok.step fdk hlv
      have lf' := fok'.len
      rw [List.length_append] at lf'
      refine followF_clo k _ _ fok' (fun l m => ?_) (fun p mp np x hx => ?_) ?_
      · rw [List.map_append]; exact List.mem_append_right _ m
      · rcases List.mem_append.mp mp with mp | mp
        · by_cases ml : p.1 ∈ lv
          · have := roundF_has (ks := ks) (qs := qs) (fo := fo) (srtL ks lv) (fd := []) (srtL_mem.mpr ml) hx
            exact lkF_or this
          · exact lkF_or (.inl (hc p mp ml x hx))
        · exact absurd (List.mem_map_of_mem mp) np
      · unfold muF at hm ⊢
        rw [if_neg l0] at hm
        rw [List.length_append]
        cases hf : roundF ks qs fo (srtL ks lv) with
        | nil => simp; omega
        | cons p r =>
          rw [hf, List.length_cons] at lf'
          rw [if_neg (by simp), List.length_cons]
          omega
theorem folP_full {n f : Int} {ks qs : KA'} {m e : Int} (he : lkA ks e ≠ none) {ss : List Stp} (h : LinkW n f ks qs m ss e) : lkF (folP ks qs m e) m ≠ none := by
  have fok := FoOk.start (qs := qs) he
  have lk := fok.len
  obtain ⟨hc, h0⟩ := followF_clo (s := m) (2 * ks.length + 2) [(e, e)] [e] fok (fun l ml => by rw [List.mem_singleton.mp ml]; simp) (fun p mp np => absurd (by rw [List.mem_singleton.mp mp]; simp) np) (by
    unfold muF
    rw [if_neg (by simp)]
    show 2 * (ks.length - 1) + 1 ≤ _
    omega)
  rcases hc with hc | hc
  · exact hc
  · have all : ∀ (ss : List Stp) (m' : Int), LinkW n f ks qs m' ss e → lkF (followF ks qs m (2 * ks.length + 2) [(e, e)] [e]) m' ≠ none := by
      intro ss
      induction ss with
      | nil =>
        intro m' h
        have h : m' = e := h
        intro z
        exact lkF_none.mp z (by rw [h]; exact List.mem_map.mpr ⟨(e, e), List.mem_of_getElem? h0, rfl⟩)
      | cons s r ih =>
        intro m' ⟨later, z, x, hz, es, hx, ex, hr⟩
        have hl := ih later hr
        cases hy : lkF (followF ks qs m (2 * ks.length + 2) [(e, e)] [e]) later with
        | none => exact absurd hy hl
        | some y =>
          have := hc _ (lkF_mem hy) List.not_mem_nil x hx
          rw [ex] at this; exact this
    exact all ss m h
theorem path_full {n f : Int} {ks qs : KA'} {m e : Int} (he : lkA ks e ≠ none) {ss : List Stp} (h : LinkW n f ks qs m ss e) : pathP n f ks qs m e ≠ none := by
  unfold pathP
  rw [if_neg (folP_full he h)]; simp
/-! sh31 -/
/-! a thing held by a direct link: there is a way, of one step -/
theorem follow_one {ks qs : KA'} {m e : Int} (hne : m ≠ e) {x : Int × Str × Int} (hx : x ∈ linksP ks qs e) (ex : x.1 = m) : lkF (folP ks qs m e) m = some e := by
  have s1 : srtL ks [e] = [e] := by unfold srtL; exact List.mergeSort_singleton e
  have l0 : lkF [(e, e)] m = none := by rw [lkF, if_neg (Ne.symm hne)]; rfl
  have hd : lkF (roundF ks qs [(e, e)] [e]) m ≠ none := by
    have := roundF_has (ks := ks) (qs := qs) (fo := [(e, e)]) [e] (fd := []) (l := e) (y := x) List.mem_cons_self hx
    rw [ex, l0] at this
    exact this.resolve_left (fun z => z rfl)
  have fdk : FdOk ks qs [(e, e)] (roundF ks qs [(e, e)] [e]) [e] := FdOk.round _ (fun l m => m) .nil
  unfold folP
  rw [show 2 * ks.length + 2 = (2 * ks.length + 1) + 1 from rfl, followF, if_neg (by rw [l0]; simp), s1]
  obtain ⟨y, hy⟩ := Option.ne_none_iff_exists'.mp hd
  have ey : y = e := by have := (fdk.lnk _ (lkF_mem hy)).1; simpa using this
  rw [ey] at hy
  have h1 : lkF ([(e, e)] ++ roundF ks qs [(e, e)] [e]) m = some e := by rw [lkF_app, l0, hy]; rfl
  rw [followF_stop (.inr (by rw [h1]; simp))]; exact h1
theorem path_short {n f : Int} {ks qs : KA'} {m e : Int} {ss : List Stp} (h : pathP n f ks qs m e = some ss) {x : Int × Str × Int} (hx : x ∈ linksP ks qs e) (ex : x.1 = m) : ss.length ≤ 1 := by
  unfold pathP at h
  by_cases h0 : lkF (folP ks qs m e) m = none
  · rw [if_pos h0] at h; cases h
  · rw [if_neg h0] at h
    have h := Option.some.inj h
    subst h
    by_cases hme : m = e
    · subst hme
      rw [chainP_end]; exact Nat.zero_le _
    · have hl := follow_one hme hx ex
      generalize folP ks qs m e = fo at hl
      cases fo.length with
      | zero => exact Nat.zero_le _
      | succ k =>
        rw [chainP, if_neg hme, hl]
        show (_ :: chainP n f ks qs fo e k e).length ≤ 1
        rw [chainP_end]; exact Nat.le_refl _
theorem enumN_mem {w : Str} {l : List Int} {i : Nat} (h : i < l.length) : (l.getD i 0, w, (i : Int)) ∈ enumN w l := List.mem_of_getElem? (enumN_at h)
theorem linksP_mem {ks qs : KA'} {d : Int} {z : Addr × List Int} (hk : lkA ks d = some z) {x : Int × Str × Int} (h1 : x ∈ heldL z.2 (esOf qs d)) (h2 : linkB ks z.2 x = true) : x ∈ linksP ks qs d := by
  unfold linksP
  rw [hk]
  exact List.mem_filter.mpr ⟨h1, h2⟩
theorem places_link {n f : Int} {ks qs : KA'} {za zb : Addr} {row es bs : List Int} (wt : Th n f row es) (hz : lkA ks (dig n f row) = some (za, row)) (he : esOf qs (dig n f row) = es) (hb : lkA ks (dig n f bs) = some (zb, bs)) {p : Pl} (hp : p ∈ placesB n f row es bs) : ∃ x ∈ linksP ks qs (dig n f row), x.1 = dig n f bs := by
  unfold placesB at hp
  obtain ⟨⟨p', d⟩, hm, rfl⟩ := List.mem_map.mp hp
  obtain ⟨hm, hpb⟩ := List.mem_filter.mp hm
  unfold PB at hpb
  rw [Bool.and_eq_true] at hpb
  obtain ⟨hd, hr⟩ := hpb
  have hd := of_decide_eq_true hd
  obtain ⟨g1, g2, g3⟩ := place_ofT wt hm
  dsimp only at hd hr g1 g2 g3
  refine ⟨(d, p'.w, p'.i), linksP_mem hz ?_ ?_, hd⟩
  · show (d, p'.w, p'.i) ∈ heldL row (esOf qs (dig n f row))
    rw [he]
    by_cases hw : p'.w = ("entry" : Str)
    · obtain ⟨q4, q5, q6, q7, q8, q9⟩ := g3 hw
      unfold heldL
      refine List.mem_append_right _ ?_
      obtain ⟨i, ei⟩ := Int.eq_ofNat_of_zero_le q6
      have hh := enumN_mem (w := "entry") (l := es) (i := i) (by omega)
      rw [ei, Int.toNat_natCast] at q9
      rw [q9, hw, ei]; exact hh
    · have gh := g2 hw
      unfold heldO at gh
      rw [if_neg (fun z => z.elim (fun y => hw y) (fun y => by rw [g1] at y; cases y))] at gh
      have gd := Option.some.inj gh
      have gl : 0 ≤ p'.i ∧ p'.i < (listN row p'.w).length := by
        unfold hasPl at g1
        rw [if_neg hw] at g1
        exact of_decide_eq_true g1
      obtain ⟨i, ei⟩ := Int.eq_ofNat_of_zero_le gl.1
      have hmem : (d, p'.w, p'.i) ∈ enumN p'.w (listN row p'.w) := by
        have hh := enumN_mem (w := p'.w) (l := listN row p'.w) (i := i) (by omega)
        rw [ei, Int.toNat_natCast] at gd
        rw [← gd, ei]; exact hh
      have hw2 : p'.w = ("cite" : Str) ∨ p'.w = ("back" : Str) := by
        by_cases h1 : p'.w = ("cite" : Str)
        · exact .inl h1
        · by_cases h2 : p'.w = ("back" : Str)
          · exact .inr h2
          · exfalso
            have : listN row p'.w = [] := by unfold listN; rw [if_neg (fun z => h1 z.1), if_neg (fun z => h2 z.1)]
            rw [this] at gl
            have : p'.i < 0 := gl.2
            omega
      unfold heldL
      rcases hw2 with h | h
      · rw [h] at hmem ⊢; exact List.mem_append_left _ (List.mem_append_left _ hmem)
      · rw [h] at hmem ⊢; exact List.mem_append_left _ (List.mem_append_right _ hmem)
  · unfold linkB
    dsimp only
    rw [hd, hb]
    exact hr
/-! plaL -/
/-! the places at which a thing holds another one are the links, in their order -/
theorem placesN_held {n f : Int} {row es : List Int} (wt : Th n f row es) : placesN n f row es = (heldL row es).map fun x => (⟨x.2.1, x.2.2, if x.2.1 = ("entry" : Str) then wy n f es x.2.2.toNat else []⟩, x.1) := by
  have th := wt.thing
  have nc : ¬ ("cite" : Str) = ("entry" : Str) := by decide +kernel
  have nb : ¬ ("back" : Str) = ("entry" : Str) := by decide +kernel
  have ncb : ¬ ("back" : Str) = ("cite" : Str) := by decide +kernel
  have ee : (enumN "entry" es).map (fun x => ((⟨x.2.1, x.2.2, if x.2.1 = ("entry" : Str) then wy n f es x.2.2.toNat else []⟩ : Pl), x.1)) = entsN n f es := by
    unfold enumN entsN
    rw [List.map_map]
    apply List.map_congr_left
    intro i _
    simp
  unfold heldL
  rw [List.map_append, List.map_append, ee]
  by_cases h2 : row.getD 0 0 = 2
  · obtain ⟨l2, l3⟩ := isThing_doc th h2
    have c0 := wt.ok.one
    have h4 : ¬ row.getD 0 0 = 4 := by omega
    have e0 : es = [] := wt.nohd h4
    have lb : listN row "back" = [] := by unfold listN; rw [if_neg (fun z => ncb z.1), if_neg (fun z => h4 z.2)]
    have lc : listN row "cite" = (row.drop 2).take (row.getD 1 0).toNat := by unfold listN; rw [if_pos ⟨rfl, h2⟩]
    have ll : (listN row "cite").length = (row.getD 1 0).toNat := by rw [lc, List.length_take, List.length_drop]; omega
    have ec : (enumN "cite" (listN row "cite")).map (fun x => ((⟨x.2.1, x.2.2, if x.2.1 = ("entry" : Str) then wy n f es x.2.2.toNat else []⟩ : Pl), x.1)) = citesN row := by
      unfold enumN citesN
      rw [List.map_map, ll]
      apply List.map_congr_left
      intro i hi
      rw [List.mem_range] at hi
      have : (listN row "cite").getD i 0 = row.getD (2 + i) 0 := by
        rw [lc, List.getD_eq_getElem?_getD, List.getElem?_take_of_lt hi, List.getElem?_drop, List.getD_eq_getElem?_getD]
      show ((⟨"cite", (i : Int), if ("cite" : Str) = ("entry" : Str) then _ else []⟩ : Pl), (listN row "cite").getD i 0) = _
      rw [if_neg nc, this]
    rw [ec, lb, e0]
    unfold placesN
    rw [if_pos h2]
    simp [enumN, entsN]
  · have lc : listN row "cite" = [] := by unfold listN; rw [if_neg (fun z => h2 z.2), if_neg (fun z => ncb z.1.symm)]
    by_cases h4 : row.getD 0 0 = 4
    · obtain ⟨l6, _⟩ := isThing_hd th h4
      have lb : listN row "back" = row.drop 6 := by unfold listN; rw [if_neg (fun z => ncb z.1), if_pos ⟨rfl, h4⟩]
      have eb : (enumN "back" (listN row "back")).map (fun x => ((⟨x.2.1, x.2.2, if x.2.1 = ("entry" : Str) then wy n f es x.2.2.toNat else []⟩ : Pl), x.1)) = backsN row := by
        unfold enumN backsN
        rw [List.map_map, lb, List.length_drop]
        apply List.map_congr_left
        intro i hi
        have : (row.drop 6).getD i 0 = row.getD (6 + i) 0 := by
          rw [List.getD_eq_getElem?_getD, List.getElem?_drop, List.getD_eq_getElem?_getD]
        show ((⟨"back", (i : Int), if ("back" : Str) = ("entry" : Str) then _ else []⟩ : Pl), (row.drop 6).getD i 0) = _
        rw [if_neg nb, this]
      rw [eb, lc]
      unfold placesN
      rw [if_neg h2, if_pos h4]
      simp [enumN]
    · have e0 : es = [] := wt.nohd h4
      have lb : listN row "back" = [] := by unfold listN; rw [if_neg (fun z => ncb z.1), if_neg (fun z => h4 z.2)]
      rw [lc, lb, e0]
      unfold placesN
      rw [if_neg h2, if_neg h4]
      simp [enumN, entsN]
/-- all places of a thing that hold another one: the links to it -/
theorem placesB_links {n f : Int} {ks qs : KA'} {za zb : Addr} {row es bs : List Int} (wt : Th n f row es) (hz : lkA ks (dig n f row) = some (za, row)) (he : esOf qs (dig n f row) = es) (hb : lkA ks (dig n f bs) = some (zb, bs)) : placesB n f row es bs = ((linksP ks qs (dig n f row)).filter fun x => decide (x.1 = dig n f bs)).map (placeP n f qs (dig n f row)) := by
  unfold placesB
  rw [placesN_held wt, List.filter_map, List.map_map]
  unfold linksP
  rw [hz]
  dsimp only
  rw [he, List.filter_filter]
  have e1 : ∀ x ∈ heldL row es, (PB n f row bs ∘ fun x : Int × Str × Int => ((⟨x.2.1, x.2.2, if x.2.1 = ("entry" : Str) then wy n f es x.2.2.toNat else []⟩ : Pl), x.1)) x = (decide (x.1 = dig n f bs) && linkB ks row x) := by
    intro x _
    show (decide (x.1 = dig n f bs) && rrB bs row _) = _
    by_cases h : x.1 = dig n f bs
    · unfold linkB
      rw [h, hb]; rfl
    · rw [decide_eq_false h, Bool.false_and, Bool.false_and]
  rw [List.filter_congr e1]
  apply List.map_congr_left
  intro x _
  unfold placeP
  rw [he]; rfl
theorem firstL_place {n f : Int} {ks qs : KA'} {za zb : Addr} {row es bs : List Int} (wt : Th n f row es) (hz : lkA ks (dig n f row) = some (za, row)) (he : esOf qs (dig n f row) = es) (hb : lkA ks (dig n f bs) = some (zb, bs)) : (placesB n f row es bs).head? = (firstL ks qs (dig n f bs) (dig n f row)).map (placeP n f qs (dig n f row)) := by
  rw [placesB_links wt hz he hb, List.head?_map]
  unfold firstL
  rw [List.head?_filter]
/-! keyR -/
/-! rows as keys -/
def keyOf (rs : List Int) : List Key := rs.map .inl
theorem keyOf_kV (rs : List Int) : (keyOf rs).map kV = rs.map V.int := by unfold keyOf; rw [List.map_map]; rfl
theorem keyOf_inj {a b : List Int} (h : keyOf a = keyOf b) : a = b := by
  induction a generalizing b with
  | nil => cases b with
    | nil => rfl
    | cons y b => cases h
  | cons x a ih => cases b with
    | nil => cases h
    | cons y b =>
      have h' := List.cons.inj (show (Sum.inl x : Key) :: keyOf a = Sum.inl y :: keyOf b from h)
      rw [Sum.inl.inj h'.1, ih h'.2]
/-! dkT -/
/-! dicts with rows for keys: {row: x}, len, for; the least of a list of rows -/
section
variable {X : Cx} {σ : L2.St} {H : Hp} {Q : VK} {N Vs Ls G : List Str} {k : Nat} {sc : Scope} {a b : Expr} {pos : Pos}
theorem vc_lenDT {p : Addr} {kvs : List (List Key × V)} (hp : H p = some (.dT kvs)) (h : Q (.int kvs.length) H) : VC X (.builtin "len") [.ref p] H Q := by
  refine ⟨fun xs H Q => ∃ a kvs, xs = [V.ref a] ∧ H a = some (.dT kvs) ∧ Q (.int kvs.length) H, ?_, p, kvs, rfl, hp, h⟩
  intro pins s σ H xs us Q I r h
  obtain ⟨a, kvs, rfl, ha, q⟩ := h
  obtain ⟨u, rfl, ru⟩ := vals1 r
  cases ru
  obtain ⟨z, hd, xs, rel, dd⟩ := dt_of I.hok ha
  have lx : kvs.length = xs.length := Paired.length rel
  refine call_len_dictH hd dd (by rw [← lx]; rw [sizeLine_eq] at z; omega) ?_
  rw [← lx]
  exact ⟨.int kvs.length, H, I.tok _, ⟨_, rfl⟩, q⟩
def tDisp1T (tk tv : TE) : TE := fun σ H Q => ∀ p, H p = none → tk σ (upd H p (.dT [])) fun x H1 => tv σ H1 fun y H2 => H2 p = some (.dT []) ∧ ∃ (kk : List Key) (b : Addr), x = .ref b ∧ H2 b = some (.tup (kk.map kV)) ∧ Q (.ref p) (upd H2 p (.dT [(kk, y)]))
theorem pe_disp1T {tk tv : TE} (hu : X.A.units + 1 < cLine) (hk : PE X a tk) (hv : PE X b tv) : PE X (.Dict [some a] [b] pos) (tDisp1T tk tv) := by
  refine ⟨fun pins s σ H Q I q => ?_⟩
  have hn := I.hok.fresh (Nat.le_refl s.heap.objs.size)
  have I1 := I.laid (a := s.heap.objs.size) (o := .dT []) (h' := s.heap.push { cls := .type "dict", data := .dict #[] }) (t' := s.toks) (fun _ _ q => Heap.get?_push_of_some _ q) (Nat.le_refl _) (dt_empty s.heap I.big)
  refine wpAny_Dict_any rfl rfl (fun z => by cases z) (by simp) ?_
  refine pairTrees_cons_walk (thn (hk.run pins _ σ _ _ I1 (q _ hn)) fun u s1 ⟨x, H1, I2, rx, q1⟩ => thn (hv.run pins s1 σ H1 _ I2 q1) fun w2 s2 ⟨y, H2, I3, ry, e, kk, b, ex, hb, q2⟩ => pairTrees_nil_walk ?_)
  subst ex
  obtain rfl : u = Value.ref b := rx
  obtain ⟨z, hd, xs, rel, dd⟩ := dt_of I3.hok e
  cases rel
  unfold storeAll
  rw [List.forIn_cons]
  refine wpAny_bind (wpAny_bind (wpAny_dictSet_heap (hsz := Nat.zero_le _) (knd := tupleKind (mixKind X.prog X.w)) (by exact (show X.A.units < cLine by omega)) (key_of I3.hok hb) dd fun h' dd' hs => wpAny_pure ?_))
  dsimp only
  rw [List.forIn_nil]
  refine wpAny_pure ⟨.ref s.heap.objs.size, _, ?_, rfl, q2⟩
  obtain ⟨q0, es, ep, hq, h2, h3, h4, _, h5⟩ := dd'
  have rel1 := KT.put (H := H2) (kvs := []) (xs := []) Paired.nil kk hb ry
  exact d_write I3 (by rw [e]; exact True.intro) hs ⟨q0, hq⟩ ⟨by show 1 ≤ sizeLine; decide, hd, _, rel1.keeps (fun c ys ec => by
    rw [upd_ne (ne_of ec e (fun z => nomatch z))]
    exact ec), q0, es, ep, hq, h2, h3, h4, h5⟩
theorem xe_disp1T (C : Ctx X sc N Vs Ls G k) (h : ∀ p H1, Kp [] H H1 → H p = none → H1 p = some (.dT []) → XE X a σ H1 fun x H2 => XE X b σ H2 fun y H3 => H3 p = some (.dT []) ∧ ∃ (kk : List Key) (b : Addr), x = .ref b ∧ H3 b = some (.tup (kk.map kV)) ∧ ∀ H4, Kp [p] H3 H4 → H4 p = some (.dT [(kk, y)]) → Q (.ref p) H4) : XE X (.Dict [some a] [b] pos) σ H Q := by
  refine ⟨_, pe_disp1T C.hu XE.pe XE.pe, fun p hp => ?_⟩
  show XE X a σ _ _
  refine XE.mono (h p _ (Kp.new hp) hp upd_same) fun x H2 h => ?_
  show XE X b σ _ _
  refine XE.mono h fun y H3 ⟨e, kk, b, ek, hb, q⟩ => ?_
  exact ⟨e, kk, b, ek, hb, q _ (Kp.set e rfl) upd_same⟩
end
theorem for_keysT {d : Addr} {od : Obj} {kvs : List (List Key × V)} {g : TG} {tb : TS} {D : Ends} {σ : L2.St} {H : Hp} (Pv : Nat → L2.St → Hp → Prop) (h0 : Pv 0 σ H) (hq : ∀ i σ H, i ≤ kvs.length → Pv i σ H → H d = some (.frz od (.dT kvs)))
    (hs : ∀ (i : Nat) (k : List Key) (v : V) (q : Addr) (σ : L2.St) (H : Hp), kvs[i]? = some (k, v) → H q = some (.tup (k.map kV)) → Pv i σ H → g (.ref q) σ H fun σ2 H2 => tb ⟨Pv (i + 1), D.rt, D.nx, Pv (i + 1)⟩ σ2 H2) (hd : ∀ σ H, Pv kvs.length σ H → D.nx σ H) :
    ∃ W : Nat → Nat → L2.St → Hp → Prop, (∃ m, W 0 m σ H) ∧ ∀ i m σ H, W i m σ H →
      ((Itkt d od kvs).stop i H ∧ D.nx σ H) ∨ ((Itkt d od kvs).go i H ∧ ∃ N : L2.St → Hp → Prop, (∀ σ' H', N σ' H' → ∃ m', m' < m ∧ W (i + 1) m' σ' H') ∧ ∀ v H', (Itkt d od kvs).yld i H v H' → g v σ H' fun σ2 H2 => tb { D with nx := N, ct := N, bk := D.nx } σ2 H2) := by
  refine ⟨fun i m σ H => i ≤ kvs.length ∧ m + i = kvs.length ∧ Pv i σ H, ⟨_, Nat.zero_le _, rfl, h0⟩, ?_⟩
  rintro i m σ H ⟨hi, hm, p⟩
  have qx := hq i σ H hi p
  rcases Nat.lt_or_ge i kvs.length with lt | ge
  · refine .inr ⟨⟨qx, lt⟩, Pv (i + 1), fun σ' H' p' => ⟨m - 1, by omega, lt, by omega, p'⟩, ?_⟩
    rintro v H' ⟨rfl, k, w, q, e, rfl, hk⟩
    exact hs i k w q σ _ e hk p
  · obtain rfl : i = kvs.length := Nat.le_antisymm hi ge
    exact .inl ⟨⟨qx, Nat.le_refl _⟩, hd σ H p⟩
section
variable {X : Cx} {σ : L2.St} {H : Hp} {N Vs Ls G : List Str} {k : Nat} {sc : Scope} {tg iter : Expr} {pos : Pos} {nx : L2.St → Hp → Prop} {D : B3} {body : List Stmt}
/-- for row in d: the dict is locked meanwhile -/
theorem xs_forKT (C : Ctx X sc N Vs Ls G k) {d : Addr} {kvs : List (List Key × V)} (hd : H d = some (.dT kvs))
    (h : ∀ (od : Obj) (H1 : Hp), Kp [d] H H1 → H1 d = some (.frz od (.dT kvs)) → (∀ A H2, Kp A H1 H2 → Kp A H (upd H2 d (.dT kvs))) → XE X iter σ H1 fun v H2 => v = .ref d ∧ H2 d = some (.frz od (.dT kvs)) ∧ ∃ Pv : Nat → L2.St → Hp → Prop, Pv 0 σ H2 ∧
      (∀ i σ' H', i ≤ kvs.length → Pv i σ' H' → H' d = some (.frz od (.dT kvs))) ∧
      (∀ i kk v q σ' H', kvs[i]? = some (kk, v) → H' q = some (.tup (kk.map kV)) → Pv i σ' H' → XG X tg (.ref q) σ' H' fun σ2 H2 => XB X body (Pv (i + 1)) ⟨fun v H' => H' d = some (.frz od (.dT kvs)) ∧ D.rt v (upd H' d (.dT kvs)), fun σ' H' => H' d = some (.frz od (.dT kvs)) ∧ nx σ' (upd H' d (.dT kvs)), Pv (i + 1)⟩ σ2 H2) ∧
      ∀ σ' H', Pv kvs.length σ' H' → nx σ' (upd H' d (.dT kvs)))
    (hs : ∀ x, foldedSetIterable iter X.env x = pure x := by intro _; rfl) : XS X (.For tg iter body [] pos) nx D σ H := by
  refine ⟨_, ps_lock (ps_for C.po C.calm (pi_keys XE.pe) XG.pg XB.ps hs), d, .dT kvs, hd, by trivial, fun od => ?_⟩
  refine XE.mono (h od _ (Kp.lock hd rfl) upd_same fun A H2 k2 => Kp.unlock hd rfl k2) fun v H2 ⟨e, h2, Pv, h0, hq, hs, hdn⟩ => ⟨d, od, e, .inr ⟨kvs, h2, ?_⟩⟩
  refine for_keysT (d := d) (od := od) (kvs := kvs) (D := ⟨fun σ' H' => H' d = some (.frz od (.dT kvs)) ∧ nx σ' (upd H' d (.dT kvs)), fun v H' => H' d = some (.frz od (.dT kvs)) ∧ D.rt v (upd H' d (.dT kvs)), fun σ' H' => H' d = some (.frz od (.dT kvs)) ∧ D.bk σ' (upd H' d (.dT kvs)), fun σ' H' => H' d = some (.frz od (.dT kvs)) ∧ D.ct σ' (upd H' d (.dT kvs))⟩) (g := XG X tg) (tb := fun D σ H => XB X body D.nx ⟨D.rt, D.bk, D.ct⟩ σ H) Pv h0 hq hs (fun σ' H' p => ⟨hq _ _ _ (Nat.le_refl _) p, hdn σ' H' p⟩)
end
/-! the least row -/
theorem ltT_ints (xs ys : List Int) : PySem.W.dataLt (.tuple (xs.map PyData.int)) (.tuple (ys.map PyData.int)) = decide (xs < ys) := by
  rw [PySem.W.dataLt_tuple]
  show PySem.W.rowLt (xs.map .int) (ys.map .int) = _
  rw [PySem.W.dataLt_ints]
theorem minD_rows : ∀ (rs : List (List Int)) (r : List Int), ∃ m, m ∈ r :: rs ∧ PySem.W.minD (.tuple (r.map PyData.int)) (rs.map fun x => PyData.tuple (x.map PyData.int)) = .tuple (m.map PyData.int) ∧ ∀ x ∈ r :: rs, m ≤ x
  | [], r => ⟨r, List.mem_cons_self, rfl, fun x m => by rw [List.mem_singleton.mp m]; exact List.le_refl _⟩
  | x :: rs, r => by
    unfold PySem.W.minD
    rw [List.map_cons, List.foldl_cons, ltT_ints]
    by_cases h : x < r
    · rw [if_pos (decide_eq_true h)]
      obtain ⟨m, h1, h2, h3⟩ := minD_rows rs x
      refine ⟨m, List.mem_cons_of_mem _ h1, h2, fun y my => ?_⟩
      rcases List.mem_cons.mp my with rfl | my
      · exact List.le_trans (h3 x List.mem_cons_self) (List.le_of_lt h)
      · exact h3 y my
    · rw [if_neg (by simpa using h)]
      obtain ⟨m, h1, h2, h3⟩ := minD_rows rs r
      refine ⟨m, ?_, h2, fun y my => ?_⟩
      · rcases List.mem_cons.mp h1 with e | e
        · rw [e]; exact List.mem_cons_self
        · exact List.mem_cons_of_mem _ (List.mem_cons_of_mem _ e)
      · rcases List.mem_cons.mp my with rfl | my
        · exact h3 _ List.mem_cons_self
        · rcases List.mem_cons.mp my with rfl | my
          · exact List.le_trans (h3 r List.mem_cons_self) (List.not_lt.mp h)
          · exact h3 y (List.mem_cons_of_mem _ my)
theorem mapI_inj : ∀ {a b : List Int}, a.map PyData.int = b.map PyData.int → a = b
  | [], [], _ => rfl
  | [], y :: b, h => nomatch h
  | x :: a, [], h => nomatch h
  | x :: a, y :: b, h => by
    have h' := List.cons.inj (show (PyData.int x :: a.map PyData.int) = PyData.int y :: b.map PyData.int from h)
    rw [PyData.int.inj h'.1, mapI_inj h'.2]
theorem tupD_inj {a b : List Int} (h : PyData.tuple (a.map PyData.int) = .tuple (b.map PyData.int)) : a = b := mapI_inj (PyData.tuple.inj h)
/-- min of a list of rows -/
theorem vc_minR {X : Cx} {H : Hp} {Q : VK} {N Vs Ls G : List Str} {k : Nat} {sc : Scope} {p : Addr} {as : List Addr} {rs : List (List Int)} (C : Ctx X sc N Vs Ls G k) (hp : SqL X.K H p (as.map V.ref)) (hr : Paired (fun a r => SqT X.K H a (r.map V.int)) as rs) (h0 : 0 < as.length)
    (h : ∀ (i : Nat) (a : Addr) (m : List Int), as[i]? = some a → rs[i]? = some m → (∀ x ∈ rs, m ≤ x) → Q (.ref a) H) : VC X (.builtin "min") [.ref p] H Q := by
  refine ⟨fun xs H Q => ∃ (p : Addr) (as : List Addr) (rs : List (List Int)), xs = [V.ref p] ∧ SqL X.K H p (as.map V.ref) ∧ Paired (fun a r => SqT X.K H a (r.map V.int)) as rs ∧ 0 < as.length ∧ ∀ (i : Nat) (a : Addr) (m : List Int), as[i]? = some a → rs[i]? = some m → (∀ x ∈ rs, m ≤ x) → Q (.ref a) H, ?_, p, as, rs, rfl, hp, hr, h0, h⟩
  clear hp hr h0 h
  intro pins s σ H xs us Q I r h
  obtain ⟨p, as, rs, rfl, hp, hr, h0, h⟩ := h
  obtain ⟨u, rfl, ru⟩ := vals1 r
  cases ru
  obtain ⟨its, rv, hl, _⟩ := I.list hp
  have lr := Paired.length hr
  have dd : DpAll X.K H (as.map V.ref) (rs.map fun x => PyData.tuple (x.map PyData.int)) := by
    clear h hp rv h0 lr hl
    rename_i hz
    clear hz
    induction hr with
    | nil => exact .nil
    | cons g _ ih => exact .cons (dp_T g) ih
  obtain ⟨bs, rd⟩ := Dp.readsAll I _ _ _ dd rv
  cases rs with
  | nil => rw [lr] at h0; exact absurd h0 (by simp)
  | cons r0 rs =>
    have dp1 : PyData.depthAll ((r0 :: rs).map fun x => PyData.tuple (x.map PyData.int)) ≤ 1 := by
      generalize r0 :: rs = l
      induction l with
      | nil => simp [PyData.depthAll]
      | cons x l ih => rw [List.map_cons, PyData.depthAll, PyData.depth, depth_ints]; omega
    refine PySem.W.min_list_data (x := .tuple (r0.map PyData.int)) (xs := rs.map fun x => PyData.tuple (x.map PyData.int)) (I.ok.hd C.calm) hl.isList (by simpa using rd) ?_ (by have := C.room.units; have := dp1; rw [List.map_cons] at this; omega) (fun i v h' tk bs hv hrd hk => ?_)
    · refine ⟨fun x hx y hy => ?_, fun x hx => ?_⟩
      · obtain ⟨x', _, rfl⟩ := List.mem_map.mp (show x ∈ (r0 :: rs).map fun x => PyData.tuple (x.map PyData.int) from hx)
        obtain ⟨y', _, rfl⟩ := List.mem_map.mp (show y ∈ (r0 :: rs).map fun x => PyData.tuple (x.map PyData.int) from hy)
        show PySem.W.alikeAll _ _ = true
        exact PySem.W.alike_ints _ _
      · obtain ⟨x', _, rfl⟩ := List.mem_map.mp (show x ∈ (r0 :: rs).map fun x => PyData.tuple (x.map PyData.int) from hx)
        exact fun z => nomatch z
    · obtain ⟨m, h1, h2, h3⟩ := minD_rows rs r0
      have hv' : its[i]? = some v := by simpa using hv
      have lv := rv.length
      rw [List.length_map] at lv
      have hi : i < as.length := by rw [lv]; exact (List.getElem?_eq_some_iff.mp hv').1
      obtain ⟨u, hu, ru⟩ := rv.get (show (as.map V.ref)[i]? = some (.ref as[i]) by rw [List.getElem?_map, List.getElem?_eq_getElem hi]; rfl)
      obtain rfl : u = v := Option.some.inj (hu.symm.trans hv')
      obtain rfl : u = Value.ref as[i] := ru
      have hri : i < (r0 :: rs).length := by rw [← lr]; exact hi
      obtain ⟨bs', rd', _⟩ := PySem.W.readsAll_at rd i (.ref as[i]) hv'
      rw [List.getD_eq_getElem?_getD, List.getElem?_map, List.getElem?_eq_getElem hri] at rd'
      have rd2 : Reads h' (.ref as[i]) (.tuple (((r0 :: rs)[i]).map PyData.int)) bs' := PySem.W.reads_keeps hk rd'
      rw [h2] at hrd
      have e := tupD_inj (PySem.W.alike_unique _ _ _ _ _ (by show PySem.W.alikeAll _ _ = true; exact PySem.W.alike_ints _ _) rd2 hrd)
      refine ⟨.ref as[i], H, I.kept hk, rfl, h i as[i] m (List.getElem?_eq_getElem hi) ?_ h3⟩
      rw [List.getElem?_eq_getElem hri, e]
/-! dist -/
/-! how many links to the end; breadth first goes by levels, of several next things the least -/
def leadB (ks qs : KA') (x y : Int) : Bool := (linksP ks qs y).any fun z => decide (z.1 = x)
theorem leadB_iff {ks qs : KA'} {x y : Int} : leadB ks qs x y = true ↔ ∃ z ∈ linksP ks qs y, z.1 = x := by
  unfold leadB
  rw [List.any_eq_true]
  exact ⟨fun ⟨z, m, e⟩ => ⟨z, m, of_decide_eq_true e⟩, fun ⟨z, m, e⟩ => ⟨z, m, decide_eq_true e⟩⟩
inductive Wk (ks qs : KA') (e : Int) : Int → Nat → Prop
  | z : Wk ks qs e e 0
  | s {x y : Int} {d : Nat} : leadB ks qs x y = true → Wk ks qs e y d → Wk ks qs e x (d + 1)
def Dist (ks qs : KA') (e x : Int) (d : Nat) : Prop := Wk ks qs e x d ∧ ∀ d', Wk ks qs e x d' → d ≤ d'
theorem Wk.zero {ks qs : KA'} {e x : Int} (h : Wk ks qs e x 0) : x = e := by cases h; rfl
theorem Wk.back {ks qs : KA'} {e x : Int} {d : Nat} (h : Wk ks qs e x (d + 1)) : ∃ y, leadB ks qs x y = true ∧ Wk ks qs e y d := by
  cases h with
  | s l w => exact ⟨_, l, w⟩
section
variable {ks qs : KA'} {e x y : Int} {d d' k : Nat}
theorem Dist.uniq (a : Dist ks qs e x d) (b : Dist ks qs e x d') : d = d' := Nat.le_antisymm (a.2 _ b.1) (b.2 _ a.1)
theorem Dist.zero : Dist ks qs e e 0 := ⟨.z, fun _ _ => Nat.zero_le _⟩
theorem Wk.dist : ∀ (d : Nat), Wk ks qs e x d → ∃ d0, d0 ≤ d ∧ Dist ks qs e x d0 := by
  intro d
  induction d using Nat.strongRecOn with
  | ind d ih =>
    intro h
    by_cases c : ∃ d', d' < d ∧ Wk ks qs e x d'
    · obtain ⟨d', l, w⟩ := c
      obtain ⟨d0, l0, h0⟩ := ih d' l w
      exact ⟨d0, by omega, h0⟩
    · exact ⟨d, Nat.le_refl _, h, fun d' w => Nat.le_of_not_lt fun l => c ⟨d', l, w⟩⟩
theorem Dist.back (h : Dist ks qs e x (d + 1)) : ∃ y, leadB ks qs x y = true ∧ Dist ks qs e y d := by
  obtain ⟨y, l, w⟩ := h.1.back
  exact ⟨y, l, w, fun d' w' => by have := h.2 _ (.s l w'); omega⟩
theorem Dist.succ (l : leadB ks qs x y = true) (h : Dist ks qs e y k) (no : ∀ d, d ≤ k → ¬ Dist ks qs e x d) : Dist ks qs e x (k + 1) := by
  refine ⟨.s l h.1, fun d' w => ?_⟩
  obtain ⟨d0, l0, h0⟩ := w.dist
  refine Nat.le_trans ?_ l0
  refine Nat.succ_le_of_lt (Nat.lt_of_not_le fun z => no d0 z h0)
end
/-! what one round finds -/
theorem addF_look {fo fd : Fo} {later x : Int} {z : Int × Str × Int} : lkF (addF fo later fd z) x = (lkF fd x).or (if z.1 = x ∧ lkF fo x = none then some later else none) := by
  unfold addF
  by_cases e : lkF fo z.1 = none ∧ lkF fd z.1 = none
  · rw [if_pos e, lkF_app, lkF]
    dsimp only
    by_cases h : z.1 = x
    · subst h
      rw [if_pos rfl, if_pos ⟨rfl, e.1⟩]
    · rw [if_neg h, if_neg (fun c => h c.1)]; rfl
  · rw [if_neg e]
    by_cases h : z.1 = x ∧ lkF fo x = none
    · obtain ⟨h1, h2⟩ := h
      subst h1
      cases hd : lkF fd z.1 with
      | none => exact absurd ⟨h2, hd⟩ e
      | some y => rfl
    · rw [if_neg h]; simp
theorem rowF_look {fo : Fo} {later x : Int} : ∀ (ls : List (Int × Str × Int)) {fd : Fo}, lkF (ls.foldl (addF fo later) fd) x = (lkF fd x).or (if lkF fo x = none ∧ (ls.any fun z => decide (z.1 = x)) = true then some later else none)
  | [], fd => by simp
  | z :: r, fd => by
    rw [List.foldl_cons, rowF_look r, addF_look, Option.or_assoc]
    congr 1
    by_cases h0 : lkF fo x = none
    · by_cases h1 : z.1 = x
      · have e : ((z :: r).any fun z => decide (z.1 = x)) = true := by rw [List.any_cons, decide_eq_true h1]; rfl
        rw [e, if_pos ⟨h1, h0⟩, if_pos (show lkF fo x = none ∧ true = true from ⟨h0, rfl⟩)]; rfl
      · rw [if_neg (fun c => h1 c.1), List.any_cons, decide_eq_false h1, Bool.false_or]; rfl
    · rw [if_neg (fun c => h0 c.2), if_neg (fun c => h0 c.1), if_neg (fun c => h0 c.1)]; rfl
theorem roundF_look {ks qs : KA'} {fo : Fo} {x : Int} : ∀ (ls : List Int) {fd : Fo}, lkF (ls.foldl (foldF ks qs fo) fd) x = (lkF fd x).or (if lkF fo x = none then ls.find? (leadB ks qs x) else none)
  | [], fd => by simp
  | l :: r, fd => by
    rw [List.foldl_cons, roundF_look r]
    unfold foldF
    rw [rowF_look, Option.or_assoc]
    congr 1
    by_cases h0 : lkF fo x = none
    · rw [if_pos h0, if_pos h0, List.find?_cons]
      show (if lkF fo x = none ∧ leadB ks qs x l = true then some l else none).or _ = _
      cases h1 : leadB ks qs x l with
      | true => rw [if_pos ⟨h0, rfl⟩]; rfl
      | false => rw [if_neg (fun c => nomatch c.2)]; rfl
    · rw [if_neg h0, if_neg h0, if_neg (fun c => h0 c.1)]; rfl
/-- by rows -/
def rle (ks : KA') (a b : Int) : Prop := rwOf ks a ≤ rwOf ks b
theorem srtL_sorted (ks : KA') (lv : List Int) : (srtL ks lv).Pairwise fun a b => rwOf ks a ≤ rwOf ks b := by
  unfold srtL
  have e : PySem.W.dataLe false (fun n => PyData.tuple ((rwOf ks n).map PyData.int)) = fun a b => decide (rwOf ks a ≤ rwOf ks b) := by
    funext a b
    show (!PySem.W.dataLt (.tuple ((rwOf ks b).map PyData.int)) (.tuple ((rwOf ks a).map PyData.int))) = _
    rw [ltT_ints]
    by_cases h : rwOf ks b < rwOf ks a
    · rw [decide_eq_true h, decide_eq_false (fun z => z h)]; rfl
    · rw [decide_eq_false h, decide_eq_true (List.not_lt.mp h)]; rfl
  rw [e]
  have := List.pairwise_mergeSort (le := fun a b => decide (rwOf ks a ≤ rwOf ks b)) (fun a b c h1 h2 => decide_eq_true (List.le_trans (of_decide_eq_true h1) (of_decide_eq_true h2))) (fun a b => by
    rcases List.le_total (rwOf ks a) (rwOf ks b) with h | h
    · rw [decide_eq_true h]; rfl
    · rw [decide_eq_true h, Bool.or_true]) lv
  exact this.imp fun h => of_decide_eq_true h
theorem find_least {ks : KA'} {p : Int → Bool} : ∀ {l : List Int}, (l.Pairwise fun a b => rwOf ks a ≤ rwOf ks b) → ∀ {y : Int}, l.find? p = some y → ∀ y' ∈ l, p y' = true → rle ks y y'
  | [], _, y, h, _, m, _ => nomatch m
  | a :: l, pw, y, h, y', m, hp => by
    rw [List.pairwise_cons] at pw
    rw [List.find?_cons] at h
    cases ha : p a with
    | true =>
      rw [ha] at h
      have e : a = y := Option.some.inj h
      subst e
      rcases List.mem_cons.mp m with rfl | m
      · exact List.le_refl _
      · exact pw.1 y' m
    | false =>
      rw [ha] at h
      rcases List.mem_cons.mp m with rfl | m
      · rw [ha] at hp; cases hp
      · exact find_least pw.2 h y' m hp
structure FoLv (ks qs : KA') (e : Int) (k : Nat) (fo : Fo) : Prop where
  all : ∀ x, lkF fo x ≠ none ↔ ∃ d, d ≤ k ∧ Dist ks qs e x d
  nxt : ∀ x y d, lkF fo x = some y → Dist ks qs e x (d + 1) → Dist ks qs e y d ∧ leadB ks qs x y = true ∧ ∀ y', Dist ks qs e y' d → leadB ks qs x y' = true → rle ks y y'
theorem FoLv.start {ks qs : KA'} {e : Int} : FoLv ks qs e 0 [(e, e)] := by
  have h0 : ∀ {x y : Int}, lkF [(e, e)] x = some y → x = e := fun {x y} h => by
    rw [lkF] at h
    by_cases c : e = x
    · exact c.symm
    · rw [if_neg c] at h; cases h
  refine ⟨fun x => ⟨fun h => ?_, fun ⟨d, l, h⟩ => ?_⟩, fun x y d h g => ?_⟩
  · obtain ⟨y, hy⟩ := Option.ne_none_iff_exists'.mp h
    rw [h0 hy]
    exact ⟨0, Nat.le_refl _, .zero⟩
  · have : d = 0 := by omega
    subst this
    rw [h.1.zero, lkF, if_pos rfl]; simp
  · rw [h0 h] at g
    exact absurd (g.uniq .zero) (by omega)
theorem FoLv.step {ks qs : KA'} {e : Int} {k : Nat} {fo : Fo} {lv : List Int} (h : FoLv ks qs e k fo) (hl : ∀ x, x ∈ lv ↔ Dist ks qs e x k) : FoLv ks qs e (k + 1) (fo ++ roundF ks qs fo (srtL ks lv)) ∧ ∀ x, x ∈ (roundF ks qs fo (srtL ks lv)).map (·.1) ↔ Dist ks qs e x (k + 1) := by
  have lk : ∀ x, lkF (roundF ks qs fo (srtL ks lv)) x = if lkF fo x = none then (srtL ks lv).find? (leadB ks qs x) else none := fun x => by
    rw [roundF_eq, roundF_look]; rfl
  have new : ∀ x, lkF (roundF ks qs fo (srtL ks lv)) x ≠ none ↔ Dist ks qs e x (k + 1) := fun x => by
    rw [lk]
    constructor
    · intro hx
      by_cases h0 : lkF fo x = none
      · rw [if_pos h0] at hx
        obtain ⟨y, hy⟩ := Option.ne_none_iff_exists'.mp hx
        refine Dist.succ (List.find?_some hy) ((hl y).mp (srtL_mem.mp (List.mem_of_find?_eq_some hy))) fun d l hd => ?_
        exact (h.all x).mpr ⟨d, l, hd⟩ h0
      · rw [if_neg h0] at hx; exact absurd rfl hx
    · intro hd
      obtain ⟨y, l, hy⟩ := hd.back
      have h0 : lkF fo x = none := by
        cases hx : lkF fo x with
        | none => rfl
        | some z =>
          obtain ⟨d, l, hd'⟩ := (h.all x).mp (by rw [hx]; simp)
          have := hd.uniq hd'
          omega
      rw [if_pos h0]
      intro z
      have := List.find?_eq_none.mp z y (srtL_mem.mpr ((hl y).mpr hy))
      exact this l
  refine ⟨⟨fun x => ⟨fun hx => ?_, fun ⟨d, l, hd⟩ => ?_⟩, fun x y d hx hd => ?_⟩, fun x => ?_⟩
  · by_cases h0 : lkF fo x = none
    · rw [lkF_app, h0] at hx
      exact ⟨k + 1, Nat.le_refl _, (new x).mp (by simpa using hx)⟩
    · obtain ⟨d, l, hd⟩ := (h.all x).mp h0
      exact ⟨d, by omega, hd⟩
  · by_cases c : d = k + 1
    · rw [c] at hd
      exact lkF_or (.inr ((new x).mpr hd))
    · exact lkF_or (.inl ((h.all x).mpr ⟨d, by omega, hd⟩))
  · rw [lkF_app] at hx
    cases h0 : lkF fo x with
    | some y0 =>
      rw [h0] at hx
      have e0 : y0 = y := Option.some.inj hx
      subst e0
      exact h.nxt x y0 d h0 hd
    | none =>
      rw [h0] at hx
      have hx : lkF (roundF ks qs fo (srtL ks lv)) x = some y := hx
      have ek : d + 1 = k + 1 := hd.uniq ((new x).mp (by rw [hx]; simp))
      have ek : d = k := by omega
      subst ek
      rw [lk, if_pos h0] at hx
      refine ⟨(hl y).mp (srtL_mem.mp (List.mem_of_find?_eq_some hx)), List.find?_some hx, fun y' hy' l' => ?_⟩
      exact find_least (srtL_sorted ks lv) hx y' (srtL_mem.mpr ((hl y').mpr hy')) l'
  · rw [← new x]
    constructor
    · intro m z
      exact lkF_none.mp z m
    · intro hx
      by_cases m : x ∈ (roundF ks qs fo (srtL ks lv)).map (·.1)
      · exact m
      · exact absurd (lkF_none.mpr m) hx
theorem followF_lv {ks qs : KA'} {s e : Int} : ∀ (fuel k : Nat) (fo : Fo) (lv : List Int), FoLv ks qs e k fo → (∀ x, x ∈ lv ↔ Dist ks qs e x k) → ∃ k', FoLv ks qs e k' (followF ks qs s fuel fo lv)
  | 0, k, fo, lv, h, _ => ⟨k, h⟩
  | fuel + 1, k, fo, lv, h, hl => by
    rw [followF]
    by_cases c : lv = [] ∨ lkF fo s ≠ none
    · rw [if_pos c]; exact ⟨k, h⟩
    · rw [if_neg c]
      obtain ⟨a, b⟩ := h.step hl
      exact followF_lv fuel (k + 1) _ _ a b
theorem folP_lv {ks qs : KA'} {m e : Int} : ∃ k, FoLv ks qs e k (folP ks qs m e) := by
  unfold folP
  refine followF_lv _ 0 _ _ .start fun x => ?_
  rw [List.mem_singleton]
  exact ⟨fun h => by rw [h]; exact .zero, fun h => h.1.zero⟩
theorem followF_ok {ks qs : KA'} {s e : Int} : ∀ (fuel : Nat) (fo : Fo) (lv : List Int), FoOk ks qs e fo → (∀ l ∈ lv, l ∈ fo.map (·.1)) → FoOk ks qs e (followF ks qs s fuel fo lv)
  | 0, fo, lv, h, _ => h
  | fuel + 1, fo, lv, h, hl => by
    rw [followF]
    by_cases c : lv = [] ∨ lkF fo s ≠ none
    · rw [if_pos c]; exact h
    · rw [if_neg c]
      have fdk : FdOk ks qs fo (roundF ks qs fo (srtL ks lv)) lv := FdOk.round _ (fun l m => srtL_mem.mp m) .nil
      exact followF_ok fuel _ _ (h.step fdk hl) fun l m => by rw [List.map_append]; exact List.mem_append_right _ m
theorem folP_ok {ks qs : KA'} {m e : Int} (he : lkA ks e ≠ none) : FoOk ks qs e (folP ks qs m e) := followF_ok _ _ _ (FoOk.start he) fun l ml => by rw [List.mem_singleton.mp ml]; simp
theorem LinkW.wk {n f : Int} {ks qs : KA'} : ∀ {ss : List Stp} {m e : Int}, LinkW n f ks qs m ss e → Wk ks qs e m ss.length
  | [], m, e, h => by
    have h : m = e := h
    subst h; exact .z
  | s :: r, m, e, ⟨later, z, x, hz, es, hx, ex, hr⟩ => .s (leadB_iff.mpr ⟨x, hx, ex⟩) hr.wk
theorem Wk.link {n f : Int} {ks qs : KA'} {e : Int} : ∀ (d : Nat) (m : Int), Wk ks qs e m d → ∃ ss, LinkW n f ks qs m ss e
  | 0, m, h => ⟨[], h.zero⟩
  | d + 1, m, h => by
    obtain ⟨y, l, w⟩ := h.back
    obtain ⟨ss, hs⟩ := Wk.link d y w
    obtain ⟨x, hx, ex⟩ := leadB_iff.mp l
    cases hz : lkA ks y with
    | none => exact absurd hz (linksP_known hx).2
    | some z => exact ⟨(z.2, placeP n f qs y x) :: ss, y, z, x, hz, rfl, hx, ex, hs⟩
theorem chain_fuel {n f : Int} {ks qs : KA'} {fo : Fo} {e : Int} {k : Nat} (L : FoLv ks qs e k fo) : ∀ (d fuel : Nat) (m : Int), Dist ks qs e m d → d ≤ k → d ≤ fuel → chainP n f ks qs fo e fuel m = chainP n f ks qs fo e d m ∧ (chainP n f ks qs fo e d m).length = d
  | 0, fuel, m, h, _, _ => by rw [h.1.zero, chainP_end, chainP_end]; exact ⟨rfl, rfl⟩
  | d + 1, fuel, m, h, hk, hf => by
    obtain ⟨fuel, rfl⟩ : ∃ g, fuel = g + 1 := ⟨fuel - 1, by omega⟩
    have hne : ¬ m = e := fun c => by rw [c] at h; exact absurd (h.uniq .zero) (by omega)
    obtain ⟨y, hy⟩ := Option.ne_none_iff_exists'.mp ((L.all m).mpr ⟨d + 1, hk, h⟩)
    obtain ⟨a, b⟩ := chain_fuel L d fuel y (L.nxt m y d hy h).1 (by omega) (by omega)
    rw [chainP, chainP, if_neg hne, if_neg hne, hy]
    show stepOf n f ks qs m y :: chainP n f ks qs fo e fuel y = stepOf n f ks qs m y :: chainP n f ks qs fo e d y ∧ _
    rw [a]
    exact ⟨rfl, by show (stepOf n f ks qs m y :: chainP n f ks qs fo e d y).length = d + 1; rw [List.length_cons, b]⟩
/-- the path is the chain of next things, as short as can be -/
theorem path_due {n f : Int} {ks qs : KA'} {m e : Int} {ss : List Stp} (he : lkA ks e ≠ none) (h : pathP n f ks qs m e = some ss) : ∃ k fo, FoLv ks qs e k fo ∧ Dist ks qs e m ss.length ∧ ss.length ≤ k ∧ ss = chainP n f ks qs fo e ss.length m ∧ ss.length ≤ ks.length := by
  have fok := folP_ok (qs := qs) (m := m) he
  obtain ⟨k, L⟩ := folP_lv (ks := ks) (qs := qs) (m := m) (e := e)
  have lk := path_link h fok
  have ll := path_len h fok
  unfold pathP at h
  by_cases h0 : lkF (folP ks qs m e) m = none
  · rw [if_pos h0] at h; cases h
  · rw [if_neg h0] at h
    have h := Option.some.inj h
    obtain ⟨d, hd, D⟩ := (L.all m).mp h0
    have dl : d ≤ ss.length := D.2 _ lk.wk
    have l2 : ss.length ≤ (folP ks qs m e).length := by rw [← h]; exact chainP_len _ _
    obtain ⟨a, b⟩ := chain_fuel (n := n) (f := f) L d (folP ks qs m e).length m D hd (by omega)
    rw [h] at a
    have es : ss.length = d := by rw [a]; exact b
    exact ⟨k, _, L, by rw [es]; exact D, by omega, by rw [es]; exact a, ll⟩
theorem path_none {n f : Int} {ks qs : KA'} {m e : Int} (he : lkA ks e ≠ none) (h : pathP n f ks qs m e = none) (d : Nat) : ¬ Wk ks qs e m d := fun w => by
  obtain ⟨ss, hs⟩ := Wk.link (n := n) (f := f) d m w
  exact path_full he hs h
theorem dist_le {ks qs : KA'} {m e : Int} (he : lkA ks e ≠ none) {d : Nat} (h : Dist ks qs e m d) : d ≤ ks.length := by
  cases hp : pathP 1 1 ks qs m e with
  | none => exact absurd h.1 (path_none he hp d)
  | some ss =>
    obtain ⟨k, fo, L, D, _, _, l⟩ := path_due he hp
    have := h.uniq D
    omega
/-! edges -/
section
local macro_rules | `(tactic| wtm_at "d") => `(tactic| first | ((with_reducible show Z.XE _ (PySem.Expr.Call (PySem.Expr.Name "len" _) (_ :: _) [] _) _ _ _); refine Z.xe_callB (id := "len") (by assumption) (by wtm_at "m") T.b_len (by decide +kernel) ?_) | ((with_reducible show Z.XE _ (PySem.Expr.Call (PySem.Expr.Name "_law_places" _) (_ :: _) [] _) _ _ _); refine Z.xe_call (by assumption) (Law.ok__law_places T) (by wtm_at "m") (by omega) ?_) | fail)
/-! to which things a thing leads, by its row -/
def outsL (ks qs : KA') (ws : List KN) (w : KN) : List KN := ws.filter fun v => leadB ks qs w.1 v.1
def edKv (xs : List (KN × Addr)) : List (List Key × V) := xs.map fun x => (keyOf x.1.2.2.2.1, .ref x.2)
structure EdAt (H : Hp) (E : Addr) (ks qs : KA') (ws : List KN) (xs : List (KN × Addr)) : Prop where
  kn : xs.map (·.1) = ws
  ls : ∀ x ∈ xs, H x.2 = some (.lst (((outsL ks qs ws x.1).map fun v => v.2.2.1).map V.ref))
theorem EdAt.kp {H H' : Hp} {E : Addr} {ks qs : KA'} {ws : List KN} {xs : List (KN × Addr)} (h : EdAt H E ks qs ws xs) (k : Kp [] H H') : EdAt H' E ks qs ws xs := ⟨h.kn, fun x m => k.at0 (h.ls x m)⟩
theorem EdAt.kp1 {H H' : Hp} {E D : Addr} {kvs : List (List Key × V)} {ks qs : KA'} {ws : List KN} {xs : List (KN × Addr)} (h : EdAt H E ks qs ws xs) (hD : H D = some (.dT kvs)) (k : Kp [D] H H') : EdAt H' E ks qs ws xs := ⟨h.kn, fun x m => k.at1 (ne_of (h.ls x m) hD (fun z => nomatch z)) (h.ls x m)⟩
theorem KnL.rowinj {K : PySem.W.Frag} {H : Hp} {n f : Int} {p kp sp : Addr} {ws : List KN} (kn : KnL K H n f p kp sp ws) {v w : KN} (mv : v ∈ ws) (mw : w ∈ ws) (e : v.2.2.2.1 = w.2.2.2.1) : v = w := by
  have h1 := lkW_nd kn.nd v mv
  have h2 := lkW_nd kn.nd w mw
  rw [kn.dg v mv, e, ← kn.dg w mw] at h1
  exact Option.some.inj (h1.symm.trans h2)
theorem valV_ed {α : Type} [DecidableEq α] {g : KN → α} {v : KN × Addr} : ∀ {xs : List (KN × Addr)}, (∀ x ∈ xs, g x.1 = g v.1 → x = v) → v ∈ xs → valV (xs.map fun x => (g x.1, V.ref x.2)) (g v.1) = some (.ref v.2)
  | [], _, m => nomatch m
  | x :: xs, hi, m => by
    rw [List.map_cons]
    by_cases e : g x.1 = g v.1
    · rw [valV_pos e, hi x List.mem_cons_self e]
    · rw [valV_neg e]
      rcases List.mem_cons.mp m with rfl | m
      · exact absurd rfl e
      · exact valV_ed (fun y my => hi y (List.mem_cons_of_mem _ my)) m
theorem valV_edno {α : Type} [DecidableEq α] {g : KN → α} {k : α} : ∀ {xs : List (KN × Addr)}, (∀ x ∈ xs, g x.1 ≠ k) → valV (xs.map fun x => (g x.1, V.ref x.2)) k = none
  | [], _ => rfl
  | x :: xs, h => by
    rw [List.map_cons, valV_neg (h x List.mem_cons_self)]
    exact valV_edno fun y my => h y (List.mem_cons_of_mem _ my)
def sp_ledges (K : PySem.W.Frag) : Sp := fun vs H Q _ => ∃ (m p kp sp : Addr) (n f : Int) (ws : List KN) (ks qs : KA'), vs = [.ref m, .ref p] ∧ H m = some (.lst ([n, f].map V.int)) ∧ 0 < n ∧ KnL K H n f p kp sp ws ∧ TupK H ws ∧ (∀ v ∈ ws, ∀ w ∈ ws, leadB ks qs w.1 v.1 = !(placesB n f v.2.2.2.1 v.2.2.2.2 w.2.2.2.1).isEmpty) ∧
  ∀ (E : Addr) (xs : List (KN × Addr)) H', Kp [] H H' → H' E = some (.dT (edKv xs)) → EdAt H' E ks qs ws xs → Q (.ref E) H'
theorem ok__law_edges (T : Txt P w K mg base) : DefOk P w K mg base "_law_edges" ["mix", "known"] 14 (sp_ledges K) := by
  refine DefOk.by T.d__law_edges sc__law_edges oc__law_edges (fun vs H Q E h => ?_) (fun X e1 e2 e3 e4 e5 C H vs Q E h => ?_)
  · obtain ⟨m, p, kp, sp, n, f, ws, ks, qs, rfl, _⟩ := h; rfl
  · obtain ⟨m, p, kp, sp, n, f, ws, ks, qs, rfl, hm, hn, kn, tk, hle, q⟩ := h
    wtm_at "go"
    refine xs_set (by assumption) ?_ (hx := by wtm_at "m") (hl := by wtm_at "m")
    refine xe_dnewT (fun E H1 k1 nE hE => ?_)
    have lws := kn.len
    wtm_at "w"
    refine xs_forL C ?_
    wtm_at "w"
    have kn1 : KnL X.K H1 n f p kp sp ws := car k1 kn
    have wat : ∀ {i : Nat} {y : V}, ((ws.map fun w => w.2.1).map V.ref)[i]? = some y → ∃ w, ws[i]? = some w ∧ y = .ref w.2.1 := fun {i} {y} hy => by
      rw [List.map_map, List.getElem?_map] at hy
      cases hw : ws[i]? with
      | none => rw [hw] at hy; cases hy
      | some w => rw [hw] at hy; exact ⟨w, rfl, (Option.some.inj hy).symm⟩
    refine vx_lst (Z.SqL.of' kn1.hp) (at_nat (t := 0) (y := .ref kp) rfl) ?_
    refine ⟨kp, _, rfl, Z.SqL.of' kn1.hk, fun i σ H' => ∃ (xs : List (KN × Addr)) (v4 v5 v6 : Option V), σ = [some (.ref m), some (.ref p), some (.ref E), v4, v5, v6] ∧ Kp [] H H' ∧ H' E = some (.dT (edKv xs)) ∧ xs.map (·.1) = ws.take i ∧ ∀ x ∈ xs, H' x.2 = some (.lst (((outsL ks qs ws x.1).map fun v => v.2.2.1).map V.ref)), ⟨[], _, _, _, rfl, k1, hE, rfl, fun _ m => nomatch m⟩, ?_, ?_, ?_⟩
    · rintro i σ' H' _ ⟨xs, v4, v5, v6, rfl, k, _⟩
      exact Z.SqL.of' (k.at0 kn.hk)
    · rintro i y σ' H2 hy ⟨xs, v4, v5, v6, rfl, k2, hE2, hxs, hls⟩
      obtain ⟨w1, hw1, rfl⟩ := wat hy
      have mw1 := List.mem_of_getElem? hw1
      obtain ⟨e1', g1, g2, g3, th1⟩ := kn.at_ w1 mw1
      clear k1 kn1 hE
      wtm_at "w"
      intro L H3 k3 nL hL
      have neL : E ≠ L := ne_of_none hE2 nL
      have hE3 := k3.at0 hE2
      have k03 := k2.tr0 k3
      have hls3 : ∀ x ∈ xs, H3 x.2 = some (.lst (((outsL ks qs ws x.1).map fun v => v.2.2.1).map V.ref)) := fun x mx => k3.at0 (hls x mx)
      have nL0 := k2.n _ nL
      have nx : ∀ x ∈ xs, x.2 ≠ L := fun x mx => ne_of_none (hls x mx) nL
      clear k3 k2 hls hE2
      wtm_at "w"
      refine xs_forL C ?_
      wtm_at "w"
      have kn3 : KnL X.K H3 n f p kp sp ws := car k03 kn
      refine vx_lst (Z.SqL.of' kn3.hp) (at_nat (t := 0) (y := .ref kp) rfl) ?_
      refine ⟨kp, _, rfl, Z.SqL.of' kn3.hk, fun j σ H' => ∃ (v6 : Option V), σ = [some (.ref m), some (.ref p), some (.ref E), some (.ref w1.2.1), some (.ref L), v6] ∧ Kp [] H H' ∧ Kp [L] H3 H' ∧ H' L = some (.lst (((outsL ks qs (ws.take j) w1).map fun v => v.2.2.1).map V.ref)), ⟨_, rfl, k03, Kp.refl _ _, hL⟩, ?_, ?_, ?_⟩
      · rintro j σ' H' _ ⟨v6, rfl, k, _⟩
        exact Z.SqL.of' (k.at0 kn.hk)
      · rintro j y σ' H4 hy ⟨v6, rfl, k04, k34, hL4⟩
        obtain ⟨w2, hw2, rfl⟩ := wat hy
        have mw2 := List.mem_of_getElem? hw2
        obtain ⟨e2', g4, g5, g6, th2⟩ := kn.at_ w2 mw2
        have m4 := k04.at0 hm
        have g1' := k04.at0 g1
        have g2' := k04.tup g2
        have g4' := k04.at0 g4
        have g5' := k04.tup g5
        have g6' := k04.at0 g6
        clear kn3 hE3
        have hid : Fr [] H H4 := k04
        clear k04 k03
        wtm_at "w"
        refine ⟨m, w2.2.1, w2.2.2.1, e2', w1.2.2.1, n, f, w2.2.2.2.1, w2.2.2.2.2, w1.2.2.2.1, rfl, m4, g4', g5', g6', th2, g2', th1.thing, hn, fun La us H5 k5 nLa hLa hd => ?_⟩
        have lu := dpAll_len hd
        rw [List.length_map] at lu
        have hL5 := k5.at0 hL4
        have g4'' := k5.at0 g4'
        have k05 : Kp [] H H5 := hid.k.tr0 k5
        have k35 : Kp [L] H3 H5 := k34.tr0 k5
        have le := hle w2 mw2 w1 mw1
        have et : ws.take (j + 1) = ws.take j ++ [w2] := take_snoc hw2
        clear k5 hid hd
        wtm_at "w"
        refine ite_d (fun hc => ?_) (fun hc => ?_)
        · have lt : leadB ks qs w1.1 w2.1 = true := by
            rw [le]
            cases hp : placesB n f w2.2.2.2.1 w2.2.2.2.2 w1.2.2.2.1 with
            | nil => rw [hp] at lu; rw [lu] at hc; simp at hc
            | cons a b => rfl
          wtm_at "w"
          refine ⟨hL5, szl (by rw [List.length_map, List.length_map]; unfold outsL; have h9 := List.length_filter_le (fun v : KN => leadB ks qs w1.1 v.1) (ws.take j); rw [List.length_take] at h9; omega), fun H6 k6 h6 => ?_⟩
          wtm_at "w"
          refine ⟨_, rfl, k05.tr1 k6 (.inr nL0), k35.tr k6 (fun l z => .inl z), ?_⟩
          rw [h6, et]
          unfold outsL
          rw [List.filter_append, List.map_append, List.map_append, List.filter_cons, if_pos lt]; rfl
        · have lt : leadB ks qs w1.1 w2.1 = false := by
            rw [le]
            cases hp : placesB n f w2.2.2.2.1 w2.2.2.2.2 w1.2.2.2.1 with
            | nil => rfl
            | cons a b => rw [hp, List.length_cons] at lu; rw [lu] at hc; exact absurd (by omega) hc
          wtm_at "w"
          refine ⟨_, rfl, k05, k35, ?_⟩
          rw [hL5, et]
          unfold outsL
          rw [List.filter_append, List.filter_cons, if_neg (by rw [lt]; simp), List.filter_nil, List.append_nil]
      · rintro σ' H4 ⟨v6, rfl, k04, k34, hL4⟩
        rw [List.length_map, List.length_map, List.take_length] at hL4
        have hE4 := k34.at1 neL hE3
        have tk4 := (tk.kp k04) w1 mw1
        have g1' := k04.at0 g1
        clear k03 kn3 hE3
        refine xb_cons ?_
        refine xs_dputT C ?_
        wtm_at "w"
        refine ⟨E, w1.2.2.1, edKv xs, keyOf w1.2.2.2.1, rfl, rfl, hE4, by rw [keyOf_kV]; exact tk4, szl (by
          unfold edKv
          have := congrArg List.length hxs
          rw [List.length_map, List.length_take] at this
          rw [List.length_map]; omega), fun H5 k5 h5 => ?_⟩
        have hno : valV (edKv xs) (keyOf w1.2.2.2.1) = none := by
          refine valV_edno (g := fun x => keyOf x.2.2.2.1) fun x mx e => ?_
          have mx1 : x.1 ∈ ws.take i := by rw [← hxs]; exact List.mem_map_of_mem mx
          have e := kn.rowinj (List.mem_of_mem_take mx1) mw1 (keyOf_inj e)
          have nd := lkW_take kn.nd hw1
          rw [e] at mx1
          have := lkW_none nd w1 mx1
          exact this rfl
        rw [putK_new _ hno] at h5
        have k45 : Kp [] H H5 := k04.tr1 k5 (.inr (by
          cases hE0 : H E with
          | none => rfl
          | some o => exact absurd hE0 (by rw [nE]; simp)))
        wtm_at "w"
        refine ⟨xs ++ [(w1, L)], _, _, _, rfl, k45, ?_, ?_, fun x mx => ?_⟩
        · rw [h5]; unfold edKv; rw [List.map_append]; rfl
        · rw [List.map_append, hxs, take_snoc hw1]; rfl
        · have hx4 : H4 x.2 = some (.lst (((outsL ks qs ws x.1).map fun v => v.2.2.1).map V.ref)) := by
            rcases List.mem_append.mp mx with mx | mx
            · exact k34.at1 (nx x mx) (hls3 x mx)
            · rw [List.mem_singleton.mp mx]; exact hL4
          exact k5.at1 (ne_of hx4 hE4 (fun z => nomatch z)) hx4
    · rintro σ' H2 ⟨xs, v4, v5, v6, rfl, k2, hE2, hxs, hls⟩
      rw [List.length_map, List.length_map, List.take_length] at hxs
      wtm_at "w"
      exact q E xs H2 k2 hE2 ⟨hxs, hls⟩
end
/-! stepsTo -/
/-! how far each row is from the end, made nearer turn by turn -/
abbrev FarG := Int → Option Nat
def nearL (G : FarG) (os : List KN) : List Int := os.filterMap fun v => (G v.1).map fun d : Nat => (d : Int)
structure InvF (ks qs : KA') (e : Int) (ws : List KN) (t i : Nat) (G : FarG) : Prop where
  snd : ∀ x d, G x = some d → Wk ks qs e x d
  cmp : ∀ w ∈ ws, ∀ d, d ≤ t → Wk ks qs e w.1 d → ∃ d', d' ≤ d ∧ G w.1 = some d'
  part : ∀ w ∈ ws.take i, ∀ d, d ≤ t + 1 → Wk ks qs e w.1 d → ∃ d', d' ≤ d ∧ G w.1 = some d'
section
variable {ks qs : KA'} {e : Int} {ws : List KN} {t i : Nat} {G : FarG}
theorem InvF.start : InvF ks qs e ws 0 0 (fun x => if x = e then some 0 else none) := by
  refine ⟨fun x d h => ?_, fun w mw d hd hw => ?_, fun w mw => by simp at mw⟩
  · by_cases c : x = e
    · rw [if_pos c] at h
      have := Option.some.inj h
      rw [c, ← this]; exact .z
    · rw [if_neg c] at h; cases h
  · have : d = 0 := by omega
    subst this
    exact ⟨0, Nat.le_refl _, by rw [if_pos hw.zero]⟩
theorem InvF.round (h : InvF ks qs e ws t ws.length G) : InvF ks qs e ws (t + 1) 0 G := ⟨h.snd, fun w mw => h.part w (by rw [List.take_length]; exact mw), fun w mw => by simp at mw⟩
theorem nearL_mem {os : List KN} {m : Int} (h : m ∈ nearL G os) : ∃ v ∈ os, ∃ d : Nat, G v.1 = some d ∧ m = d := by
  unfold nearL at h
  obtain ⟨v, mv, hv⟩ := List.mem_filterMap.mp h
  obtain ⟨d, hd, e⟩ := Option.map_eq_some_iff.mp hv
  exact ⟨v, mv, d, hd, e.symm⟩
theorem nearL_of {os : List KN} {v : KN} {d : Nat} (mv : v ∈ os) (h : G v.1 = some d) : (d : Int) ∈ nearL G os := List.mem_filterMap.mpr ⟨v, mv, by rw [h]; rfl⟩
/-- a way of links begins with one to a thing that is known -/
theorem InvF.first (h : InvF ks qs e ws t i G) (hk : ∀ x, lkA ks x ≠ none → ∃ v ∈ ws, v.1 = x) {w : KN} {d : Nat} (hd : d ≤ t) (hw : Wk ks qs e w.1 (d + 1)) : ∃ v ∈ outsL ks qs ws w, ∃ d', d' ≤ d ∧ G v.1 = some d' := by
  obtain ⟨y, l, hy⟩ := hw.back
  obtain ⟨x, hx, _⟩ := leadB_iff.mp l
  obtain ⟨v, mv, ev⟩ := hk y (linksP_known hx).2
  subst ev
  obtain ⟨d', l', g⟩ := h.cmp v mv d hd hy
  exact ⟨v, List.mem_filter.mpr ⟨mv, l⟩, d', l', g⟩
theorem InvF.next (h : InvF ks qs e ws t i G) {w : KN} (hw : ws[i]? = some w) {G' : FarG} (snd : ∀ x d, G' x = some d → Wk ks qs e x d) (le : ∀ x d, G x = some d → ∃ d', d' ≤ d ∧ G' x = some d') (here : ∀ d, d ≤ t + 1 → Wk ks qs e w.1 d → ∃ d', d' ≤ d ∧ G' w.1 = some d') : InvF ks qs e ws t (i + 1) G' := by
  refine ⟨snd, fun v mv d hd hv => ?_, fun v mv d hd hv => ?_⟩
  · obtain ⟨d', l, g⟩ := h.cmp v mv d hd hv
    obtain ⟨d2, l2, g2⟩ := le _ _ g
    exact ⟨d2, by omega, g2⟩
  · rw [take_snoc hw] at mv
    rcases List.mem_append.mp mv with mv | mv
    · obtain ⟨d', l, g⟩ := h.part v mv d hd hv
      obtain ⟨d2, l2, g2⟩ := le _ _ g
      exact ⟨d2, by omega, g2⟩
    · rw [List.mem_singleton.mp mv] at hv ⊢
      exact here d hd hv
theorem InvF.no0 (h : InvF ks qs e ws t i G) (hk : ∀ x, lkA ks x ≠ none → ∃ v ∈ ws, v.1 = x) {w : KN} (hw : ws[i]? = some w) (h0 : ¬ 0 < (nearL G (outsL ks qs ws w)).length) : InvF ks qs e ws t (i + 1) G := by
  refine h.next hw h.snd (fun x d g => ⟨d, Nat.le_refl _, g⟩) fun d hd hv => ?_
  cases d with
  | zero => exact h.cmp w (List.mem_of_getElem? hw) 0 (Nat.zero_le _) hv
  | succ d =>
    obtain ⟨v, mv, d', _, g⟩ := h.first hk (by omega) hv
    exact absurd (List.length_pos_of_mem (nearL_of mv g)) h0
theorem InvF.keep (h : InvF ks qs e ws t i G) (hk : ∀ x, lkA ks x ≠ none → ∃ v ∈ ws, v.1 = x) {w : KN} (hw : ws[i]? = some w) {m : Int} (hm : ∀ y ∈ nearL G (outsL ks qs ws w), m ≤ y) {g0 : Nat} (hg : G w.1 = some g0) (c : ¬ (g0 : Int) > m + 1) : InvF ks qs e ws t (i + 1) G := by
  refine h.next hw h.snd (fun x d g => ⟨d, Nat.le_refl _, g⟩) fun d hd hv => ?_
  cases d with
  | zero => exact h.cmp w (List.mem_of_getElem? hw) 0 (Nat.zero_le _) hv
  | succ d =>
    obtain ⟨v, mv, d', l', g⟩ := h.first hk (by omega) hv
    have := hm _ (nearL_of mv g)
    exact ⟨g0, by omega, hg⟩
theorem InvF.put (h : InvF ks qs e ws t i G) (hk : ∀ x, lkA ks x ≠ none → ∃ v ∈ ws, v.1 = x) {w : KN} (hw : ws[i]? = some w) {m : Nat} (mm : (m : Int) ∈ nearL G (outsL ks qs ws w)) (hm : ∀ y ∈ nearL G (outsL ks qs ws w), (m : Int) ≤ y) (c : ∀ g0 : Nat, G w.1 = some g0 → (g0 : Int) > m + 1) : InvF ks qs e ws t (i + 1) (fun x => if x = w.1 then some (m + 1) else G x) := by
  refine h.next hw (fun x d g => ?_) (fun x d g => ?_) fun d hd hv => ?_
  · by_cases ex : x = w.1
    · rw [if_pos ex] at g
      obtain ⟨v, mv, d0, g0, e0⟩ := nearL_mem mm
      have e1 : m = d0 := by omega
      have := Option.some.inj g
      rw [ex, ← this, e1]
      exact .s (List.mem_filter.mp mv).2 (h.snd _ _ g0)
    · rw [if_neg ex] at g; exact h.snd x d g
  · by_cases ex : x = w.1
    · rw [if_pos ex]
      rw [ex] at g
      have := c d g
      exact ⟨m + 1, by omega, rfl⟩
    · rw [if_neg ex]; exact ⟨d, Nat.le_refl _, g⟩
  · rw [if_pos rfl]
    cases d with
    | zero =>
      obtain ⟨d', l, g⟩ := h.cmp w (List.mem_of_getElem? hw) 0 (Nat.zero_le _) hv
      have := c d' g
      omega
    | succ d =>
      obtain ⟨v, mv, d', l', g⟩ := h.first hk (by omega) hv
      have := hm _ (nearL_of mv g)
      exact ⟨m + 1, by omega, rfl⟩
/-- in the end each row is as far as its least number of links -/
theorem InvF.done (h : InvF ks qs e ws t 0 G) (hl : ∀ x d, Dist ks qs e x d → d ≤ t) {w : KN} (mw : w ∈ ws) {d : Nat} : G w.1 = some d ↔ Dist ks qs e w.1 d := by
  constructor
  · intro g
    obtain ⟨d0, l0, h0⟩ := (h.snd _ _ g).dist
    obtain ⟨d', l', g'⟩ := h.cmp w mw d0 (hl _ _ h0) h0.1
    have e1 : d' = d := Option.some.inj (g'.symm.trans g)
    have : d = d0 := by omega
    rw [this]; exact h0
  · intro hd
    obtain ⟨d', l', g'⟩ := h.cmp w mw d (hl _ _ hd) hd.1
    have := hd.2 _ (h.snd _ _ g')
    rw [g']; congr 1; omega
end
/-- such numbers by rows, at D -/
def FarAt (H : Hp) (D : Addr) (ws : List KN) (G : FarG) (cnt : Nat) : Prop := ∃ kvs : List (List Key × V), H D = some (.dT kvs) ∧ (∀ w ∈ ws, valV kvs (keyOf w.2.2.2.1) = (G w.1).map fun d : Nat => V.int d) ∧ kvs.length ≤ cnt
theorem FarAt.kp {H H' : Hp} {D : Addr} {ws : List KN} {G : FarG} {cnt : Nat} (h : FarAt H D ws G cnt) (k : Kp [] H H') : FarAt H' D ws G cnt := by
  obtain ⟨kvs, a, b, c⟩ := h
  exact ⟨kvs, k.at0 a, b, c⟩
theorem FarAt.get {H : Hp} {D : Addr} {ws : List KN} {G : FarG} {cnt : Nat} (h : FarAt H D ws G cnt) {w : KN} (mw : w ∈ ws) {a : Addr} (ha : H a = some (.tup (w.2.2.2.1.map V.int))) : DGet H D (.ref a) ((G w.1).map fun d : Nat => V.int d) := by
  obtain ⟨kvs, h1, h2, h3⟩ := h
  exact .inr ⟨kvs, keyOf w.2.2.2.1, a, .inl h1, rfl, by rw [keyOf_kV]; exact ha, (h2 w mw).symm⟩
theorem EdAt.get {H : Hp} {E : Addr} {ks qs : KA'} {ws : List KN} {xs : List (KN × Addr)} (h : EdAt H E ks qs ws xs) (hinj : ∀ v ∈ ws, ∀ w ∈ ws, v.2.2.2.1 = w.2.2.2.1 → v = w) (hnd : ws.Nodup) (hE : H E = some (.dT (edKv xs)) ∨ ∃ o, H E = some (.frz o (.dT (edKv xs)))) {w : KN} (mw : w ∈ ws) {a : Addr} (ha : H a = some (.tup (w.2.2.2.1.map V.int))) : ∃ L, DGet H E (.ref a) (some (.ref L)) ∧ H L = some (.lst (((outsL ks qs ws w).map fun v => v.2.2.1).map V.ref)) := by
  rw [← h.kn] at mw
  obtain ⟨x, mx, rfl⟩ := List.mem_map.mp mw
  have uq : ∀ y ∈ xs, keyOf y.1.2.2.2.1 = keyOf x.1.2.2.2.1 → y = x := fun y my e => by
    have e1 := hinj y.1 (by rw [← h.kn]; exact List.mem_map_of_mem my) x.1 (by rw [← h.kn]; exact List.mem_map_of_mem mx) (keyOf_inj e)
    have nd : (xs.map (·.1)).Nodup := by rw [h.kn]; exact hnd
    exact (List.pairwise_map.mp nd |> fun p => by
      obtain ⟨i, hi, ei⟩ := List.getElem_of_mem my
      obtain ⟨j, hj, ej⟩ := List.getElem_of_mem mx
      rcases Nat.lt_trichotomy i j with l | l | l
      · have := List.pairwise_iff_getElem.mp p i j hi hj l
        rw [ei, ej] at this; exact absurd e1 this
      · subst l; rw [← ei, ← ej]
      · have := List.pairwise_iff_getElem.mp p j i hj hi l
        rw [ei, ej] at this; exact absurd e1.symm this)
  refine ⟨x.2, .inr ⟨edKv xs, keyOf x.1.2.2.2.1, a, hE, rfl, by rw [keyOf_kV]; exact ha, ?_⟩, h.ls x mx⟩
  exact (valV_ed (g := fun w => keyOf w.2.2.2.1) (v := x) uq mx).symm
/-! stepsW -/
section
local macro_rules | `(tactic| wtm_at "d") => `(tactic| first | ((with_reducible show Z.XE _ (PySem.Expr.Call (PySem.Expr.Name "len" _) (_ :: _) [] _) _ _ _); refine Z.xe_callB (id := "len") (by assumption) (by wtm_at "m") T.b_len (by decide +kernel) ?_) | ((with_reducible show Z.XE _ (PySem.Expr.Call (PySem.Expr.Name "min" _) (_ :: _) [] _) _ _ _); refine Z.xe_callB (id := "min") (by assumption) (by wtm_at "m") T.b_min (by decide +kernel) ?_) | fail)
structure WsOk (ks : KA') (ws : List KN) : Prop where
  inj : ∀ v ∈ ws, ∀ w ∈ ws, v.2.2.2.1 = w.2.2.2.1 → v = w
  nd : ws.Nodup
  dinj : ∀ v ∈ ws, ∀ w ∈ ws, v.1 = w.1 → v = w
  hk : ∀ x, lkA ks x ≠ none → ∃ v ∈ ws, v.1 = x
  len : ws.length ≤ 100
theorem KnL.wsok {K : PySem.W.Frag} {H : Hp} {n f : Int} {p kp sp : Addr} {ws : List KN} (kn : KnL K H n f p kp sp ws) : WsOk (ksOf ws) ws := by
  refine ⟨fun v mv w mw e => kn.rowinj mv mw e, ?_, fun v mv w mw e => ?_, fun x hx => ?_, kn.len⟩
  · have := kn.nd
    rw [List.nodup_iff_pairwise_ne, List.pairwise_map] at this
    exact this.imp fun h e => h (by rw [e])
  · have h1 := lkW_nd kn.nd v mv
    have h2 := lkW_nd kn.nd w mw
    rw [e] at h1
    exact Option.some.inj (h1.symm.trans h2)
  · rw [lkA_ksOf] at hx
    cases hw : lkW ws x with
    | none => rw [hw] at hx; exact absurd rfl hx
    | some w => exact ⟨w, lkW_mem hw⟩
theorem InvF.put' {ks qs : KA'} {e : Int} {ws : List KN} {t i : Nat} {G : FarG} (W : WsOk ks ws) {H H' : Hp} {D q : Addr} {w : KN} (mw : w ∈ ws) {cnt m : Nat} {kvs : List (List Key × V)} (hv : ∀ w ∈ ws, valV kvs (keyOf w.2.2.2.1) = (G w.1).map fun d : Nat => V.int d) (hl : kvs.length ≤ cnt) (h' : H' D = some (.dT (putK kvs (keyOf w.2.2.2.1) (.int ((m : Int) + 1))))) : FarAt H' D ws (fun x => if x = w.1 then some (m + 1) else G x) (cnt + 1) := by
  refine ⟨_, h', fun v mv => ?_, by have := length_putK kvs (keyOf w.2.2.2.1) (.int ((m : Int) + 1)); omega⟩
  rw [valV_put]
  dsimp only
  by_cases c : v.1 = w.1
  · rw [W.dinj v mv w mw c, if_pos rfl, if_pos rfl]; rfl
  · rw [if_neg c, if_neg (fun z => c (by rw [W.inj v mv w mw (keyOf_inj z)]))]
    exact hv v mv
theorem ex_min : ∀ l : List Int, 0 < l.length → ∃ m ∈ l, ∀ y ∈ l, m ≤ y
  | [x], _ => ⟨x, List.mem_cons_self, fun y m => by rw [List.mem_singleton.mp m]; omega⟩
  | x :: z :: r, _ => by
    obtain ⟨m, h1, h2⟩ := ex_min (z :: r) (by simp)
    by_cases c : x ≤ m
    · refine ⟨x, List.mem_cons_self, fun y my => ?_⟩
      rcases List.mem_cons.mp my with rfl | my
      · omega
      · have := h2 y my; omega
    · refine ⟨m, List.mem_cons_of_mem _ h1, fun y my => ?_⟩
      rcases List.mem_cons.mp my with rfl | my
      · omega
      · exact h2 y my
def sp_lsteps (K : PySem.W.Frag) : Sp := fun vs H Q _ => ∃ (E ea : Addr) (ks qs : KA') (ws : List KN) (xs : List (KN × Addr)) (we : KN), vs = [.ref E, .ref ea] ∧ H E = some (.dT (edKv xs)) ∧ EdAt H E ks qs ws xs ∧ WsOk ks ws ∧ TupK H ws ∧ we ∈ ws ∧ H ea = some (.tup (we.2.2.2.1.map V.int)) ∧ (∀ x d, Dist ks qs we.1 x d → d ≤ ws.length) ∧
  ∀ (D : Addr) (G : FarG) (cnt : Nat) H', Kp [] H H' → H D = none → FarAt H' D ws G cnt → (∀ w ∈ ws, ∀ d, G w.1 = some d ↔ Dist ks qs we.1 w.1 d) → Q (.ref D) H'
theorem ok__law_steps_to (T : Txt P w K mg base) : DefOk P w K mg base "_law_steps_to" ["edges", "end"] 2 (sp_lsteps K) := by
  refine DefOk.by T.d__law_steps_to sc__law_steps_to oc__law_steps_to (fun vs H Q E h => ?_) (fun X e1 e2 e3 e4 e5 C H vs Q E h => ?_)
  · obtain ⟨E, ea, ks, qs, ws, xs, we, rfl, _⟩ := h; rfl
  · obtain ⟨E, ea, ks, qs, ws, xs, we, rfl, hE, ed, W, tk, mwe, hea, hdl, q⟩ := h
    have lws := W.len
    have lxs : xs.length = ws.length := by rw [← ed.kn, List.length_map]
    wtm_at "go"
    refine xs_set (by assumption) ?_ (hx := by wtm_at "m") (hl := by wtm_at "m")
    refine xe_disp1T C (fun D H1 k1 nD hD => ?_)
    have hea1 := k1.t _ _ hea
    have neD : E ≠ D := ne_of_none hE nD
    wtm_at "w"
    refine ⟨hD, keyOf we.2.2.2.1, ea, rfl, by rw [keyOf_kV]; exact hea1, fun H2 k2 hD2 => ?_⟩
    have k02 : Kp [] H H2 := k1.tr1 k2 (.inr nD)
    clear k1 k2 hD hea1
    have F2 : FarAt H2 D ws (fun x => if x = we.1 then some 0 else none) 1 := by
      refine ⟨_, hD2, fun v mv => ?_, Nat.le_refl _⟩
      dsimp only
      by_cases c : v.1 = we.1
      · rw [W.dinj v mv we mwe c, if_pos rfl, valV_pos rfl]; rfl
      · rw [if_neg c, valV_neg (fun z => c (by rw [W.inj we mwe v mv (keyOf_inj z)]))]; rfl
    wtm_at "w"
    refine xs_forR1 (by assumption) (by wtm_at "m") T.b_range ?_
    wtm_at "w"
    refine vc_lenDT (k02.at0 hE) ?_
    wtm_at "w"
    have le : (edKv xs).length = ws.length := by unfold edKv; rw [List.length_map, lxs]
    rw [le]
    refine ⟨_, rfl, by omega, by omega, fun t σ H' => ∃ (G : FarG) (v3 v4 v5 v6 : Option V), σ = [some (.ref E), some (.ref ea), some (.ref D), v3, v4, v5, v6] ∧ Kp [] H H' ∧ FarAt H' D ws G (1 + t * ws.length) ∧ InvF ks qs we.1 ws t 0 G, ⟨_, _, _, _, _, rfl, k02, by rw [Nat.zero_mul]; exact F2, .start⟩, ?_, ?_⟩
    · rintro t σ' H3 ht ⟨G, v3, v4, v5, v6, rfl, k3, F3, I3⟩
      have ht' : t < ws.length := by omega
      clear F2 hD2 k02
      wtm_at "w"
      have hE3 := k3.at0 hE
      refine xs_forKT C hE3 (fun od H4 k4 hE4 un => ?_)
      wtm_at "w"
      have F4 : FarAt H4 D ws G (1 + t * ws.length + 0) := by
        obtain ⟨kvs, a, b, c⟩ := F3
        exact ⟨kvs, k4.at1 (Ne.symm neD) a, b, c⟩
      have ed4 : EdAt H4 E ks qs ws xs := (ed.kp k3).kp1 hE3 k4
      have tk4 : TupK H4 ws := (tk.kp k3).kp k4
      refine ⟨rfl, hE4, fun i σ H' => ∃ (G : FarG) (v4 v5 v6 : Option V), σ = [some (.ref E), some (.ref ea), some (.ref D), some (.int t), v4, v5, v6] ∧ Kp [D] H4 H' ∧ FarAt H' D ws G (1 + t * ws.length + i) ∧ InvF ks qs we.1 ws t i G, ⟨_, _, _, _, rfl, Kp.refl _ _, F4, I3⟩, ?_, ?_, ?_⟩
      · rintro i σ' H' _ ⟨G, v4, v5, v6, rfl, k, _⟩
        exact k.z _ _ _ hE4
      · rintro i kk vv qa σ' H5 hkv hqa ⟨G, v4, v5, v6, rfl, k5, F5, I5⟩
        obtain ⟨x, hx, ekk, evv⟩ : ∃ x, xs[i]? = some x ∧ kk = keyOf x.1.2.2.2.1 ∧ vv = .ref x.2 := by
          unfold edKv at hkv
          rw [List.getElem?_map] at hkv
          cases hx : xs[i]? with
          | none => rw [hx] at hkv; cases hkv
          | some x =>
            rw [hx] at hkv
            have := Prod.mk.inj (Option.some.inj hkv)
            exact ⟨x, rfl, this.1.symm, this.2.symm⟩
        have hw : ws[i]? = some x.1 := by rw [← ed.kn, List.getElem?_map, hx]; rfl
        have mw := List.mem_of_getElem? hw
        have hi : i < ws.length := (List.getElem?_eq_some_iff.mp hw).1
        subst ekk
        rw [keyOf_kV] at hqa
        generalize x.1 = w1 at hqa hw mw
        have ed5 : EdAt H5 E ks qs ws xs := by
          obtain ⟨kvs, a, _⟩ := F4
          exact ed4.kp1 a k5
        have hE5 := k5.z _ _ _ hE4
        have tk5 := tk4.kp k5
        obtain ⟨L, gL, hL⟩ := ed5.get W.inj W.nd (.inr ⟨_, hE5⟩) mw hqa
        have los : (outsL ks qs ws w1).length ≤ 100 := by
          have := List.length_filter_le (fun v : KN => leadB ks qs w1.1 v.1) ws
          unfold outsL; omega
        have osm : ∀ v ∈ outsL ks qs ws w1, v ∈ ws := fun v mv => (List.mem_filter.mp mv).1
        clear F4 ed4 F3
        wtm_at "w"
        refine xs_setLc C (by wtm_at "m") (by decide +kernel) rfl (by decide +kernel) ?_
        refine xlc_L (Vs' := ["far", "other"]) (G' := []) (nm := "other") (i := 6) (by assumption) ⟨rfl, by decide +kernel, by decide +kernel, rfl, by decide +kernel, by decide⟩ ?_
        wtm_at "w"
        refine vx_dict C gL ?_
        refine ⟨L, _, rfl, Z.SqL.of' hL, fun N H6 k6 nN hN => ⟨fun j H' => Kp [] H5 H' ∧ H' N = some (.lst ((nearL G ((outsL ks qs ws w1).take j)).map V.int)), ⟨k6, hN⟩, ?_, ?_, ?_⟩⟩
        · rintro j H' _ ⟨k, _⟩
          exact Z.SqL.of' (k.at0 hL)
        · rintro j y H7 hy ⟨k7, hN7⟩
          rw [List.map_map, List.getElem?_map] at hy
          obtain ⟨v, hv, ev⟩ := Option.map_eq_some_iff.mp hy
          subst ev
          have mv := osm v (List.mem_of_getElem? hv)
          have tv := (tk5.kp k7) v mv
          have F7 := F5.kp k7
          clear k6 hN
          refine ⟨_, by wtm_at "u", ?_⟩
          intro s0 H0 c cl fp C'
          wtm_at "w"
          refine vo_inD C' (F7.get mv tv) ?_
          wtm_at "w"
          have et : (outsL ks qs ws w1).take (j + 1) = (outsL ks qs ws w1).take j ++ [v] := take_snoc hv
          cases hg : G v.1 with
          | none =>
            refine L2.iteF ?_
            refine ⟨k7, ?_⟩
            rw [hN7, et]
            unfold nearL
            rw [List.filterMap_append, List.filterMap_cons, hg]; simp
          | some d =>
            refine L2.iteT ?_
            intro s0 H0 c cl fp C'
            wtm_at "w"
            refine vx_dict C' (by have := F7.get mv tv; rw [hg] at this; exact this) ?_
            refine ⟨_, hN7, szl (by
              have h9 := List.length_filterMap_le (fun v : KN => (G v.1).map fun d : Nat => (d : Int)) ((outsL ks qs ws w1).take j)
              unfold nearL
              rw [List.length_take] at h9
              rw [List.length_map]; omega), fun H8 k8 h8 => ⟨k7.tr1 k8 (.inr nN), ?_⟩⟩
            rw [h8, et]
            unfold nearL
            rw [List.filterMap_append, List.filterMap_cons, hg, List.map_append]; rfl
        · rintro H7 ⟨k7, hN7⟩
          rw [List.length_map, List.length_map, List.take_length] at hN7
          have F7 := F5.kp k7
          have k47 : Kp [D] H4 H7 := k5.tr0 k7
          have hqa7 := k7.t _ _ hqa
          have lnn : (nearL G (outsL ks qs ws w1)).length ≤ 100 := by
            have h9 := List.length_filterMap_le (fun v : KN => (G v.1).map fun d : Nat => (d : Int)) (outsL ks qs ws w1)
            unfold nearL; omega
          clear k6 hN k7 hL gL ed5 hE5 F5 k5
          wtm_at "w"
          refine ite_d (fun h0 => ?_) (fun h0 => ?_)
          · have h0' : 0 < (nearL G (outsL ks qs ws w1)).length := by rw [List.length_map] at h0; omega
            obtain ⟨m0, mm, hmin⟩ := ex_min _ h0'
            obtain ⟨_, _, m, _, em⟩ := nearL_mem mm
            subst em
            refine XW.mono (Q := fun b H' => H' = H7 ∧ (b = true → ∀ g0 : Nat, G w1.1 = some g0 → (g0 : Int) > m + 1) ∧ (b = false → ∃ g0 : Nat, G w1.1 = some g0 ∧ ¬ (g0 : Int) > m + 1)) ?_ ?_
            · wtm_at "w"
              refine vo_notInD C (F7.get mw hqa7) ?_
              wtm_at "w"
              cases hg : G w1.1 with
              | none =>
                refine L2.iteT ?_
                exact ⟨rfl, fun _ g0 z => (nomatch z), fun z => nomatch z⟩
              | some g0 =>
                refine L2.iteF ?_
                wtm_at "w"
                refine vx_dict C (by have := F7.get mw hqa7; rw [hg] at this; exact this) ?_
                wtm_at "w"
                refine vc_minL C (Z.SqL.of' hN7) h0' (fun m1 hm1 hmin1 => ?_)
                have e1 : m1 = (m : Int) := by
                  have := hmin m1 hm1
                  have := hmin1 _ mm
                  omega
                subst e1
                wtm_at "w"
                refine ⟨rfl, fun z g1 e => ?_, fun z => ⟨g0, rfl, of_decide_eq_false z⟩⟩
                rw [← Option.some.inj e]
                exact of_decide_eq_true z
            · rintro b H8 ⟨rfl, ht, hf⟩
              cases b with
              | true =>
                have ht := ht rfl
                obtain ⟨kvs, hk1, hk2, hk3⟩ := F7
                refine L2.iteT ?_
                refine xb_cons ?_
                refine xs_dputT C ?_
                wtm_at "w"
                refine vc_minL C (Z.SqL.of' hN7) h0' (fun m1 hm1 hmin1 => ?_)
                have e1 : m1 = (m : Int) := by
                  have := hmin m1 hm1
                  have := hmin1 _ mm
                  omega
                subst e1
                wtm_at "w"
                refine ⟨D, qa, kvs, keyOf w1.2.2.2.1, rfl, rfl, hk1, by rw [keyOf_kV]; exact hqa7, szl (by
                  have h9 : t * ws.length ≤ 100 * 100 := Nat.mul_le_mul (by omega) lws
                  omega), fun H8 k8 h8 => ?_⟩
                wtm_at "w"
                exact ⟨_, _, _, _, rfl, k47.tr k8 (fun l z => .inl z), InvF.put' (H := H8) (q := qa) (e := we.1) (qs := qs) (t := t) (i := i) W mw hk2 hk3 h8, I5.put W.hk hw mm hmin ht⟩
              | false =>
                obtain ⟨g0, hg, hc⟩ := hf rfl
                refine L2.iteF ?_
                wtm_at "w"
                refine ⟨G, _, _, _, rfl, k47, ?_, I5.keep W.hk hw hmin hg hc⟩
                obtain ⟨kvs, a, b, c⟩ := F7
                exact ⟨kvs, a, b, by omega⟩
          · refine L2.iteF ?_
            wtm_at "w"
            refine ⟨G, _, _, _, rfl, k47, ?_, I5.no0 W.hk hw (fun z => h0 (by rw [List.length_map]; omega))⟩
            obtain ⟨kvs, a, b, c⟩ := F7
            exact ⟨kvs, a, b, by omega⟩
      · rintro σ' H5 ⟨G, v4, v5, v6, rfl, k5, F5, I5⟩
        rw [le] at F5 I5
        refine xb_nil ?_
        refine ⟨G, _, _, _, _, rfl, k3.tr1 (un [D] H5 k5) (.inr nD), ?_, I5.round⟩
        · obtain ⟨kvs, a, b, c⟩ := F5
          refine ⟨kvs, ?_, b, by rw [Nat.succ_mul]; omega⟩
          rw [upd_ne (Ne.symm neD)]; exact a
    · rintro σ' H3 ⟨G, v3, v4, v5, v6, rfl, k3, F3, I3⟩
      wtm_at "w"
      exact q D G _ H3 k3 nD F3 fun w mw d => I3.done (fun x d hd => by have := hdl x d hd; omega) mw
end
/-! dueW -/
section
local macro_rules | `(tactic| wtm_at "d") => `(tactic| first | ((with_reducible show Z.XE _ (PySem.Expr.Call (PySem.Expr.Name "min" _) (_ :: _) [] _) _ _ _); refine Z.xe_callB (id := "min") (by assumption) (by wtm_at "m") T.b_min (by decide +kernel) ?_) | ((with_reducible show Z.XE _ (PySem.Expr.Call (PySem.Expr.Name "_law_places" _) (_ :: _) [] _) _ _ _); refine Z.xe_call (by assumption) (Law.ok__law_places T) (by wtm_at "m") (by omega) ?_) | ((with_reducible show Z.XE _ (PySem.Expr.Call (PySem.Expr.Name "_law_steps_to" _) (_ :: _) [] _) _ _ _); refine Z.xe_call (by assumption) (Law.ok__law_steps_to T) (by wtm_at "m") (by omega) ?_) | fail)
theorem able_pair {K : PySem.W.Frag} {H : Hp} : ∀ {vs : List KN}, (∀ v ∈ vs, H v.2.2.1 = some (.tup (v.2.2.2.1.map V.int))) → Paired (fun a r => SqT K H a (r.map V.int)) (vs.map fun v => v.2.2.1) (vs.map fun v => v.2.2.2.1)
  | [], _ => .nil
  | v :: r, h => .cons (Z.SqT.of' (h v List.mem_cons_self)) (able_pair fun x m => h x (List.mem_cons_of_mem _ m))
theorem rwOf_ws {ws : List KN} (nd : (ws.map fun w => w.1).Nodup) {v : KN} (mv : v ∈ ws) : rwOf (ksOf ws) v.1 = v.2.2.2.1 := by
  unfold rwOf
  rw [lkA_ksOf, lkW_nd nd v mv]; rfl
def sp_lduep (K : PySem.W.Frag) : Sp := fun vs H Q _ => ∃ (m p kp sp E : Addr) (n f : Int) (ws : List KN) (qs : KA') (xs : List (KN × Addr)) (w1 w2 : KN), vs = [.ref m, .ref p, .ref E, .ref w1.2.2.1, .ref w2.2.2.1] ∧ H m = some (.lst ([n, f].map V.int)) ∧ 0 < n ∧ KnL K H n f p kp sp ws ∧ TupK H ws ∧ H E = some (.dT (edKv xs)) ∧ EdAt H E (ksOf ws) qs ws xs ∧ w1 ∈ ws ∧ w2 ∈ ws ∧ (∀ w ∈ ws, esOf qs w.1 = w.2.2.2.2) ∧
  (pathP n f (ksOf ws) qs w1.1 w2.1 = none → ∀ H', Kp [] H H' → Q .non H') ∧ (∀ ss, pathP n f (ksOf ws) qs w1.1 w2.1 = some ss → ∀ L us H', Kp [] H H' → H L = none → H' L = some (.lst us) → DpAll K H' us (ss.map stpD) → Q (.ref L) H')
theorem ok__law_due_path (T : Txt P w K mg base) : DefOk P w K mg base "_law_due_path" ["mix", "known", "edges", "start", "end"] 14 (sp_lduep K) := by
  refine DefOk.by T.d__law_due_path sc__law_due_path oc__law_due_path (fun vs H Q E h => ?_) (fun X e1 e2 e3 e4 e5 C H vs Q E h => ?_)
  · obtain ⟨m, p, kp, sp, E, n, f, ws, qs, xs, w1, w2, rfl, _⟩ := h; rfl
  · obtain ⟨m, p, kp, sp, E, n, f, ws, qs, xs, w1, w2, rfl, hm, hn, kn, tk, hE, ed, mw1, mw2, hes, q1, q2⟩ := h
    have W := kn.wsok
    have lws := kn.len
    have he : lkA (ksOf ws) w2.1 ≠ none := by rw [lkA_ksOf, lkW_nd kn.nd w2 mw2]; simp
    have lks : (ksOf ws).length = ws.length := by unfold ksOf; rw [List.length_map]
    wtm_at "go"
    wtm_at "w"
    refine ⟨E, w2.2.2.1, ksOf ws, qs, ws, xs, w2, rfl, hE, ed, W, tk, mw2, tk w2 mw2, fun x d hd => by have := dist_le he hd; omega, fun D G cnt H1 k1 nD F1 hG => ?_⟩
    have tk1 := tk.kp k1
    wtm_at "w"
    refine vo_notInD C (F1.get mw1 (tk1 w1 mw1)) ?_
    wtm_at "w"
    cases hg : G w1.1 with
    | none =>
      refine L2.iteT ?_
      wtm_at "w"
      refine q1 ?_ H1 k1
      cases hp : pathP n f (ksOf ws) qs w1.1 w2.1 with
      | none => rfl
      | some ss =>
        obtain ⟨_, _, _, D0, _⟩ := path_due he hp
        rw [(hG w1 mw1 _).mpr D0] at hg; cases hg
    | some d =>
      have D1 := (hG w1 mw1 d).mp hg
      cases hp : pathP n f (ksOf ws) qs w1.1 w2.1 with
      | none => exact absurd D1.1 (path_none he hp d)
      | some ss =>
      obtain ⟨kk, fo, FL, D0, lss, ess, lsk⟩ := path_due he hp
      have q2 := q2 ss hp
      have ed0 : d = ss.length := D1.uniq D0
      subst ed0
      have lsw : ss.length ≤ ws.length := by omega
      refine L2.iteF ?_
      wtm_at "w"
      intro S H2 k2 nS hS
      have k02 := k1.tr0 k2
      have nS0 := k1.n _ nS
      wtm_at "w"
      refine xs_forR1 (by assumption) (by wtm_at "m") T.b_range ?_
      wtm_at "w"
      refine vx_dict C (by have := (F1.kp k2).get mw1 ((tk1.kp k2) w1 mw1); rw [hg] at this; exact this) ?_
      wtm_at "w"
      refine ⟨_, rfl, by omega, by omega, fun t σ H' => ∃ (v : KN) (us : List V) (v8 v9 v10 v11 v12 v13 : Option V), σ = [some (.ref m), some (.ref p), some (.ref E), some (.ref w1.2.2.1), some (.ref w2.2.2.1), some (.ref D), some (.ref S), some (.ref v.2.2.1), v8, v9, v10, v11, v12, v13] ∧ v ∈ ws ∧ Dist (ksOf ws) qs w2.1 v.1 (ss.length - t) ∧ Kp [] H1 H' ∧ H' S = some (.lst us) ∧ DpAll X.K H' us ((ss.take t).map stpD) ∧ chainP n f (ksOf ws) qs fo w2.1 (ss.length - t) v.1 = ss.drop t, ⟨w1, [], _, _, _, _, _, _, rfl, mw1, D0, k2, hS, .nil, ess.symm⟩, ?_, ?_⟩
      · rintro t σ' H3 ht ⟨v, us, v8, v9, v10, v11, v12, v13, rfl, mv, Dv, k3, hS3, du, hch⟩
        have ht' : t < ss.length := by omega
        obtain ⟨dc, edc⟩ : ∃ dc, ss.length - t = dc + 1 := ⟨ss.length - t - 1, by omega⟩
        rw [edc] at Dv hch
        have hne : ¬ v.1 = w2.1 := fun c => by rw [c] at Dv; exact absurd (Dv.uniq .zero) (by omega)
        obtain ⟨y, hy⟩ := Option.ne_none_iff_exists'.mp ((FL.all v.1).mpr ⟨dc + 1, by omega, Dv⟩)
        obtain ⟨Dy, ly, leasty⟩ := FL.nxt _ _ _ hy Dv
        rw [chainP, if_neg hne, hy] at hch
        have hch : stepOf n f (ksOf ws) qs v.1 y :: chainP n f (ksOf ws) qs fo w2.1 dc y = ss.drop t := hch
        have hst : ss[t]? = some (stepOf n f (ksOf ws) qs v.1 y) := by
          have : (ss.drop t)[0]? = ss[t]? := by rw [List.getElem?_drop]; rfl
          rw [← this, ← hch]; rfl
        have hch2 : chainP n f (ksOf ws) qs fo w2.1 dc y = ss.drop (t + 1) := by
          have : (ss.drop t).drop 1 = ss.drop (t + 1) := by rw [List.drop_drop]
          rw [← this, ← hch]; rfl
        obtain ⟨hz, hzx⟩ := leadB_iff.mp ly
        obtain ⟨vy, mvy, evy⟩ := W.hk y (linksP_known hzx.1).2
        subst evy
        have k03 : Kp [] H H3 := k1.tr0 k3
        have kn3 : KnL X.K H3 n f p kp sp ws := car k03 kn
        have tk3 := tk.kp k03
        have hE3 := k03.at0 hE
        have ed3 := ed.kp k03
        have F3 := F1.kp k3
        have gv := (hG v mv _).mpr Dv
        obtain ⟨L, gL, hL⟩ := ed3.get W.inj W.nd (.inl hE3) mv (tk3 v mv)
        have osm : ∀ u ∈ outsL (ksOf ws) qs ws v, u ∈ ws := fun u mu => (List.mem_filter.mp mu).1
        have los : (outsL (ksOf ws) qs ws v).length ≤ 100 := by
          have := List.length_filter_le (fun u : KN => leadB (ksOf ws) qs v.1 u.1) ws
          unfold outsL; omega
        clear k2 hS
        wtm_at "w"
        refine xs_setLc C (by wtm_at "m") (by decide +kernel) rfl (by decide +kernel) ?_
        refine xlc_L (Vs' := ["far", "row", "other"]) (G' := []) (nm := "other") (i := 12) (by assumption) ⟨rfl, by decide +kernel, by decide +kernel, rfl, by decide +kernel, by decide⟩ ?_
        wtm_at "w"
        refine vx_dict C gL ?_
        refine ⟨L, _, rfl, Z.SqL.of' hL, fun N H6 k6 nN hN => ⟨fun j H' => Kp [] H3 H' ∧ H' N = some (.lst (((((outsL (ksOf ws) qs ws v).take j).filter fun u => decide (G u.1 = some dc)).map fun u => u.2.2.1).map V.ref)), ⟨k6, hN⟩, ?_, ?_, ?_⟩⟩
        · rintro j H' _ ⟨k, _⟩
          exact Z.SqL.of' (k.at0 hL)
        · rintro j yy H7 hyy ⟨k7, hN7⟩
          rw [List.map_map, List.getElem?_map] at hyy
          obtain ⟨u, hu, eu⟩ := Option.map_eq_some_iff.mp hyy
          subst eu
          have mu := osm u (List.mem_of_getElem? hu)
          have tk7 := tk3.kp k7
          have tu := tk7 u mu
          have tv := tk7 v mv
          have F7 := F3.kp k7
          clear k6 hN kn3
          refine ⟨_, by wtm_at "u", ?_⟩
          intro s0 H0 c cl fp C'
          wtm_at "w"
          refine vo_inD C' (F7.get mu tu) ?_
          wtm_at "w"
          have et : (outsL (ksOf ws) qs ws v).take (j + 1) = (outsL (ksOf ws) qs ws v).take j ++ [u] := take_snoc hu
          have no : ¬ G u.1 = some dc → Kp [] H3 H7 ∧ H7 N = some (.lst (((((outsL (ksOf ws) qs ws v).take (j + 1)).filter fun u => decide (G u.1 = some dc)).map fun u => u.2.2.1).map V.ref)) := fun hc => by
            refine ⟨k7, ?_⟩
            rw [hN7, et, List.filter_append, List.filter_cons, if_neg (by simpa using hc)]; simp
          cases hgu : G u.1 with
          | none =>
            refine L2.iteF ?_
            wtm_at "w"
            exact no (by rw [hgu]; simp)
          | some g =>
            refine L2.iteT ?_
            wtm_at "w"
            refine vx_dict C' (by have := F7.get mu tu; rw [hgu] at this; exact this) ?_
            wtm_at "w"
            refine vx_dict C' (by have := F7.get mv tv; rw [gv] at this; exact this) ?_
            wtm_at "w"
            refine ite_d (fun hc => ?_) (fun hc => ?_)
            · have hc' : g = dc := by omega
              subst hc'
              intro s0 H0 c cl fp C'
              wtm_at "w"
              refine ⟨_, hN7, szl (by
                have h9 := List.length_filter_le (fun u : KN => decide (G u.1 = some g)) ((outsL (ksOf ws) qs ws v).take j)
                rw [List.length_take] at h9
                rw [List.length_map, List.length_map]; omega), fun H8 k8 h8 => ⟨k7.tr1 k8 (.inr nN), ?_⟩⟩
              rw [h8, et, List.filter_append, List.filter_cons, if_pos (decide_eq_true hgu), List.map_append, List.map_append]; rfl
            · exact no (fun z => hc (by
                rw [hgu] at z
                have := Option.some.inj z
                omega))
        · rintro H7 ⟨k7, hN7⟩
          rw [List.length_map, List.length_map, List.take_length] at hN7
          have mab : ∀ u, u ∈ (outsL (ksOf ws) qs ws v).filter (fun u => decide (G u.1 = some dc)) ↔ u ∈ ws ∧ leadB (ksOf ws) qs v.1 u.1 = true ∧ Dist (ksOf ws) qs w2.1 u.1 dc := fun u => by
            unfold outsL
            rw [List.mem_filter, List.mem_filter]
            constructor
            · rintro ⟨⟨a, b⟩, c⟩
              exact ⟨a, b, (hG u a dc).mp (of_decide_eq_true c)⟩
            · rintro ⟨a, b, c⟩
              exact ⟨⟨a, b⟩, decide_eq_true ((hG u a dc).mpr c)⟩
          generalize (outsL (ksOf ws) qs ws v).filter (fun u => decide (G u.1 = some dc)) = ab at hN7 mab
          have mya := (mab vy).mpr ⟨mvy, ly, Dy⟩
          have tk7 := tk3.kp k7
          have k17 := k3.tr0 k7
          have k07 := k03.tr0 k7
          have kn7 : KnL X.K H7 n f p kp sp ws := car k7 kn3
          have S7 := k7.at0 hS3
          have du7 := dpAll_kp k7 du
          clear k6 hN k7 kn3 hS3 du
          wtm_at "w"
          refine vc_minR C (Z.SqL.of' hN7) (able_pair (fun u mu => tk7 u ((mab u).mp mu).1)) (by rw [List.length_map]; exact List.length_pos_of_mem mya) (fun i a mr ha hmr hmin => ?_)
          rw [List.getElem?_map] at ha hmr
          obtain ⟨u, hu, eu⟩ := Option.map_eq_some_iff.mp ha
          subst eu
          rw [hu] at hmr
          have emr := Option.some.inj hmr
          have emr : u.2.2.2.1 = mr := emr
          subst emr
          obtain ⟨mu, lu, Du⟩ := (mab u).mp (List.mem_of_getElem? hu)
          have euy : u = vy := by
            have h1 := hmin vy.2.2.2.1 (List.mem_map.mpr ⟨vy, mya, rfl⟩)
            have h2 := leasty u.1 Du lu
            unfold rle at h2
            rw [rwOf_ws kn.nd mvy, rwOf_ws kn.nd mu] at h2
            exact W.inj u mu vy mvy (List.le_antisymm h1 h2)
          subst euy
          clear hmin ha hu hN7 mab mya
          wtm_at "w"
          refine xe_lc C ?_
          refine xlc_L (Vs' := ["least", "one"]) (G' := []) (nm := "one") (i := 13) (by assumption) ⟨rfl, by decide +kernel, by decide +kernel, rfl, by decide +kernel, by decide⟩ ?_
          wtm_at "w"
          refine vx_lst (Z.SqL.of' kn7.hp) (at_nat (t := 0) (y := .ref kp) rfl) ?_
          refine ⟨kp, _, rfl, Z.SqL.of' kn7.hk, fun N8 H8 k8 nN8 hN8 => ⟨fun j H' => Kp [] H7 H' ∧ H' N8 = some (.lst ((((ws.take j).filter fun z => decide (z.2.2.2.1 = u.2.2.2.1)).map fun z => z.2.1).map V.ref)), ⟨k8, hN8⟩, ?_, ?_, ?_⟩⟩
          · rintro j H' _ ⟨k, _⟩
            exact Z.SqL.of' (k.at0 kn7.hk)
          · rintro j yy H9 hyy ⟨k9, hN9⟩
            rw [List.map_map, List.getElem?_map] at hyy
            obtain ⟨z, hz', ez⟩ := Option.map_eq_some_iff.mp hyy
            subst ez
            have mz := List.mem_of_getElem? hz'
            have kn9 : KnL X.K H9 n f p kp sp ws := car k9 kn7
            obtain ⟨ez, z1, z2, _, _⟩ := kn9.at_ z mz
            have tu := (tk7.kp k9) u mu
            have et : ws.take (j + 1) = ws.take j ++ [z] := take_snoc hz'
            clear k8 hN8
            refine ⟨_, by wtm_at "u", ?_⟩
            intro s0 H0 c cl fp C'
            wtm_at "w"
            refine vx_l0 (Z.SqL.of' z1) ?_
            wtm_at "w"
            refine vo_eqT C' z2 (Z.SqT.of' tu) ?_
            wtm_at "w"
            refine ite_d (fun hc => ?_) (fun hc => ?_)
            · intro s0 H0 c cl fp C'
              wtm_at "w"
              refine ⟨_, hN9, szl (by
                have h9 := List.length_filter_le (fun z : KN => decide (z.2.2.2.1 = u.2.2.2.1)) (ws.take j)
                rw [List.length_take] at h9
                rw [List.length_map, List.length_map]; omega), fun H10 k10 h10 => ⟨k9.tr1 k10 (.inr nN8), ?_⟩⟩
              rw [h10, et, List.filter_append, List.filter_cons, if_pos (decide_eq_true hc), List.map_append, List.map_append]; rfl
            · refine ⟨k9, ?_⟩
              rw [hN9, et, List.filter_append, List.filter_cons, if_neg (by simpa using hc)]; simp
          · rintro H9 ⟨k9, hN9⟩
            rw [List.length_map, List.length_map, List.take_length] at hN9
            have hu0 : ((((ws.filter fun z => decide (z.2.2.2.1 = u.2.2.2.1)).map fun z => z.2.1).map V.ref))[0]? = some (.ref u.2.1) := by
              have mem : u ∈ ws.filter fun z => decide (z.2.2.2.1 = u.2.2.2.1) := List.mem_filter.mpr ⟨mu, decide_eq_true rfl⟩
              cases hf : ws.filter (fun z => decide (z.2.2.2.1 = u.2.2.2.1)) with
              | nil => rw [hf] at mem; exact absurd mem List.not_mem_nil
              | cons z r =>
                have mz : z ∈ ws.filter (fun z => decide (z.2.2.2.1 = u.2.2.2.1)) := by rw [hf]; exact List.mem_cons_self
                obtain ⟨a, b⟩ := List.mem_filter.mp mz
                rw [W.inj z a u mu (of_decide_eq_true b)]; rfl
            have kn9 : KnL X.K H9 n f p kp sp ws := car k9 kn7
            obtain ⟨eu, u1, u2, u3, thu⟩ := kn9.at_ u mu
            obtain ⟨ev, v1', v2', v3', thv⟩ := kn9.at_ v mv
            have k19 : Kp [] H1 H9 := k17.tr0 k9
            have S9 := k9.at0 S7
            have du9 := dpAll_kp k9 du7
            have m9 := k9.at0 (k07.at0 hm)
            clear k8 hN8 k9 k07 k17 kn7 du7 S7 tk7 kn9
            wtm_at "w"
            refine vx_lst (Z.SqL.of' hN9) (at_nat (t := 0) hu0) ?_
            wtm_at "w"
            refine ⟨m, u.2.1, u.2.2.1, eu, v.2.2.1, n, f, u.2.2.2.1, u.2.2.2.2, v.2.2.2.1, rfl, m9, u1, u2, u3, thu, v2', thv.thing, hn, fun La us5 H10 k10 nLa hLa hd => ?_⟩
            have hz1 : lkA (ksOf ws) (dig n f u.2.2.2.1) = some (u.2.2.1, u.2.2.2.1) := by rw [lkA_ksOf, ← kn.dg u mu, lkW_nd kn.nd u mu]; rfl
            have hb1 : lkA (ksOf ws) (dig n f v.2.2.2.1) = some (v.2.2.1, v.2.2.2.1) := by rw [lkA_ksOf, ← kn.dg v mv, lkW_nd kn.nd v mv]; rfl
            have hfp := firstL_place thu hz1 (by rw [← kn.dg u mu]; exact hes u mu) hb1
            obtain ⟨x0, hx0, _, _⟩ := firstL_some (m := v.1) (later := u.1) ⟨hz, hzx⟩
            rw [← kn.dg u mu, ← kn.dg v mv, hx0] at hfp
            have hfp : (placesB n f u.2.2.2.1 u.2.2.2.2 v.2.2.2.1).head? = some (placeP n f qs u.1 x0) := hfp
            obtain ⟨y0, hy0, dy0⟩ := dpAll_at hd (i := 0) (d := plD (placeP n f qs u.1 x0)) (by rw [List.getElem?_map, ← List.head?_eq_getElem?, hfp]; rfl)
            have S10 := k10.at0 S9
            have du10 := dpAll_kp k10 du9
            have k110 : Kp [] H1 H10 := k19.tr0 k10
            have u2' := k10.tup u2
            have est : stepOf n f (ksOf ws) qs v.1 u.1 = (u.2.2.2.1, placeP n f qs u.1 x0) := by
              unfold stepOf
              rw [rwOf_ws kn.nd mu, hx0]; rfl
            clear k10 k19 S9 du9 hd m9 u1 u2 u3 v1' v2' v3' hfp
            wtm_at "w"
            refine vx_lst (Z.SqL.of' hLa) (at_nat (t := 0) hy0) ?_
            wtm_at "w"
            intro tp H11 k11 htp _
            refine ⟨k11.at0 S10, szl (by
              have := dpAll_len du10
              rw [List.length_map, List.length_take] at this
              omega), fun H12 k12 h12 => ?_⟩
            have k112 : Kp [] H1 H12 := (k110.tr0 k11).tr1 k12 (.inr nS)
            wtm_at "w"
            refine ⟨u, us ++ [.ref tp], _, _, _, _, _, _, rfl, mu, by rw [show ss.length - (t + 1) = dc by omega]; exact Dy, k112, h12, ?_, by rw [show ss.length - (t + 1) = dc by omega]; exact hch2⟩
            rw [List.take_add_one, hst, List.map_append]
            have noS : ∀ l : List Stp, noLs (l.map stpD) = true := fun l => by
              induction l with
              | nil => rfl
              | cons s r ih =>
                rw [List.map_cons, noLs, ih]
                unfold stpD plD
                split <;> simp [noL, noLs, noLs_ints]
            refine dpAll_app (dpAll_kpT k12 (noS _) (dpAll_kp k11 du10)) ?_
            rw [est]
            exact .cons (.tup (k12.tup htp) (.cons (dp_T (k12.tup (k11.tup u2'))) (.cons (dp_kpT k12 (by unfold plD; split <;> simp [noL, noLs, noLs_ints]) (dp_kp k11 dy0)) .nil))) .nil
      · rintro σ' H3 ⟨v, us, v8, v9, v10, v11, v12, v13, rfl, mv, Dv, k3, hS3, du, hch⟩
        rw [List.take_of_length_le (by omega)] at du
        wtm_at "w"
        exact q2 S us H3 (k1.tr0 k3) nS0 hS3 du
end
/-! isC -/
theorem vc_isC {X : Cx} {H : Hp} {Q : VK} {C a dx : Addr} {fs : List (Str × V)} (c : C8.InsC X.K C) (ha : H a = some (.ins C dx fs)) (h : Q (.bl true) H) : VC X (.builtin "isinstance") [.ref a, .ref C] H Q := ⟨_, C8.call_isC c, a, dx, fs, rfl, ha, h⟩
/-! stpsok -/
/-! steps as data that is compared -/
theorem es_short {n f : Int} {ks qs : KA'} (kn : Know n f ks qs) {d : Int} {z : Addr × List Int} (hz : lkA ks d = some z) : (esOf qs d).length ≤ 500 := by
  have mz := lkA_mem hz
  unfold esOf
  by_cases h4 : z.2.getD 0 0 = 4
  · obtain ⟨c, es, e1, _, _, _, e5⟩ := kn.hd _ mz h4
    dsimp only at e1
    rw [e1]; exact e5
  · have := kn.no _ mz h4
    dsimp only at this
    rw [this]; simp
theorem link_plain {n f : Int} {ks qs : KA'} (kn : Know n f ks qs) : ∀ (ss : List Stp) (m e : Int), LinkW n f ks qs m ss e → ∀ s ∈ ss, s.1.length ≤ 10000 ∧ s.2.way.length ≤ 600
  | [], _, _, _, s, m => absurd m List.not_mem_nil
  | s :: r, m, e, h, s', ms => by
    obtain ⟨later, z, x, hz, es, hx, ex, hr⟩ := h
    rcases List.mem_cons.mp ms with rfl | ms
    · rw [es]
      refine ⟨(kn.th _ (lkA_mem hz)).2.1.len, ?_⟩
      show (if x.2.1 = ("entry" : Str) then wy n f (esOf qs later) x.2.2.toNat else []).length ≤ 600
      split
      · have h5 := es_short kn hz
        rw [wy_len n f 600 _ _ (by omega)]
        have := tn_len 9 (esOf qs later).length x.2.2.toNat (by omega)
        omega
      · exact Nat.zero_le _
    · exact link_plain kn r later e hr s' ms
theorem stps_plain : ∀ ss : List Stp, (∀ s ∈ ss, s.1.length ≤ 10000 ∧ s.2.way.length ≤ 600) → plainSs (ss.map stpD) ∧ PyData.depthAll (ss.map stpD) ≤ 3
  | [], _ => ⟨trivial, by simp [PyData.depthAll]⟩
  | s :: r, h => by
    obtain ⟨a, b⟩ := stps_plain r (fun x m => h x (List.mem_cons_of_mem _ m))
    obtain ⟨h1, h2⟩ := h s List.mem_cons_self
    rw [List.map_cons, plainSs, PyData.depthAll]
    refine ⟨⟨?_, a⟩, ?_⟩
    · unfold stpD plD
      simp only [plainS, plainSs, List.length_map, List.length_cons, List.length_nil]
      refine ⟨by omega, ⟨by omega, plainSs_ints _⟩, ?_, trivial⟩
      split
      · simp only [plainS, plainSs, List.length_map, List.length_cons, List.length_nil]
        exact ⟨by omega, trivial, trivial, ⟨by omega, plainSs_ints _⟩, trivial⟩
      · simp only [plainS, plainSs, List.length_cons, List.length_nil]
        exact ⟨by omega, trivial, trivial, trivial⟩
    · have : (stpD s).depth ≤ 3 := by
        unfold stpD plD
        split <;> simp [PyData.depth, PyData.depthAll, depth_ints]
      omega
theorem stpsD_ok {n f : Int} {ks qs : KA'} (kn : Know n f ks qs) {ss : List Stp} {m e : Int} (l : ss.length ≤ 1000) (h : LinkW n f ks qs m ss e) : plainS (.list (ss.map stpD)) ∧ (PyData.list (ss.map stpD)).depth ≤ 4 := by
  obtain ⟨a, b⟩ := stps_plain ss (link_plain kn ss m e h)
  refine ⟨?_, by rw [PyData.depth]; omega⟩
  simp only [plainS, List.length_map]
  exact ⟨by omega, a⟩
/-! law -/
section
local macro_rules | `(tactic| wtm_at "d") => `(tactic| first | ((with_reducible show Z.XE _ (PySem.Expr.Call (PySem.Expr.Name "isinstance" _) (_ :: _) [] _) _ _ _); refine Z.xe_callB (id := "isinstance") (by assumption) (by wtm_at "m") T.b_isinstance (by decide +kernel) ?_) | ((with_reducible show Z.XE _ (PySem.Expr.Call (PySem.Expr.Name "len" _) (_ :: _) [] _) _ _ _); refine Z.xe_callB (id := "len") (by assumption) (by wtm_at "m") T.b_len (by decide +kernel) ?_) | ((with_reducible show Z.XE _ (PySem.Expr.Call (PySem.Expr.Name "_law_row" _) (_ :: _) [] _) _ _ _); refine Z.xe_call (by assumption) (Law.ok__law_row T) (by wtm_at "m") (by omega) ?_) | ((with_reducible show Z.XE _ (PySem.Expr.Call (PySem.Expr.Name "_law_draw" _) (_ :: _) [] _) _ _ _); refine Z.xe_call (by assumption) (Law.ok__law_draw T) (by wtm_at "m") (by omega) ?_) | ((with_reducible show Z.XE _ (PySem.Expr.Call (PySem.Expr.Name "_law_same" _) (_ :: _) [] _) _ _ _); refine Z.xe_call (by assumption) (Law.ok__law_same T) (by wtm_at "m") (by omega) ?_) | ((with_reducible show Z.XE _ (PySem.Expr.Call (PySem.Expr.Name "_law_mix" _) (_ :: _) [] _) _ _ _); refine Z.xe_call (by assumption) (Law.ok__law_mix T) (by wtm_at "m") (by omega) ?_) | ((with_reducible show Z.XE _ (PySem.Expr.Call (PySem.Expr.Name "_law_things" _) (_ :: _) [] _) _ _ _); refine Z.xe_call (by assumption) (Law.ok__law_things T) (by wtm_at "m") (by omega) ?_) | ((with_reducible show Z.XE _ (PySem.Expr.Call (PySem.Expr.Name "_law_known" _) (_ :: _) [] _) _ _ _); refine Z.xe_call (by assumption) (Law.ok__law_known T) (by wtm_at "m") (by omega) ?_) | ((with_reducible show Z.XE _ (PySem.Expr.Call (PySem.Expr.Name "_law_filled" _) (_ :: _) [] _) _ _ _); refine Z.xe_call (by assumption) (Law.ok__law_filled T) (by wtm_at "m") (by omega) ?_) | ((with_reducible show Z.XE _ (PySem.Expr.Call (PySem.Expr.Name "_law_edges" _) (_ :: _) [] _) _ _ _); refine Z.xe_call (by assumption) (Law.ok__law_edges T) (by wtm_at "m") (by omega) ?_) | ((with_reducible show Z.XE _ (PySem.Expr.Call (PySem.Expr.Name "_law_due_path" _) (_ :: _) [] _) _ _ _); refine Z.xe_call (by assumption) (Law.ok__law_due_path T) (by wtm_at "m") (by omega) ?_) | ((with_reducible show Z.XE _ (PySem.Expr.Call (PySem.Expr.Name "Paper" _) (_ :: _) [] _) _ _ _); refine Z.xe_make (by assumption) (Law.ok_Paper T) (by wtm_at "m") (by omega) ?_) | fail)
theorem lead_places {n f : Int} {ws : List KN} {qs : KA'} (ths : ∀ w ∈ ws, Th n f w.2.2.2.1 w.2.2.2.2) (dg : ∀ w ∈ ws, w.1 = dig n f w.2.2.2.1) (nd : (ws.map fun w => w.1).Nodup) (hes : ∀ w ∈ ws, esOf qs w.1 = w.2.2.2.2) : ∀ v ∈ ws, ∀ w ∈ ws, leadB (ksOf ws) qs w.1 v.1 = !(placesB n f v.2.2.2.1 v.2.2.2.2 w.2.2.2.1).isEmpty := by
  intro v mv w mw
  have hz1 : lkA (ksOf ws) (dig n f v.2.2.2.1) = some (v.2.2.1, v.2.2.2.1) := by rw [lkA_ksOf, ← dg v mv, lkW_nd nd v mv]; rfl
  have hb1 : lkA (ksOf ws) (dig n f w.2.2.2.1) = some (w.2.2.1, w.2.2.2.1) := by rw [lkA_ksOf, ← dg w mw, lkW_nd nd w mw]; rfl
  rw [placesB_links (ths v mv) hz1 (by rw [← dg v mv]; exact hes v mv) hb1, ← dg v mv, ← dg w mw]
  unfold leadB
  cases h : (linksP (ksOf ws) qs v.1).filter (fun x => decide (x.1 = w.1)) with
  | nil =>
    rw [List.any_eq_false.mpr (fun x mx => List.filter_eq_nil_iff.mp h x mx)]; rfl
  | cons a r =>
    have ma : a ∈ (linksP (ksOf ws) qs v.1).filter (fun x => decide (x.1 = w.1)) := by rw [h]; exact List.mem_cons_self
    obtain ⟨a1, a2⟩ := List.mem_filter.mp ma
    rw [List.any_eq_true.mpr ⟨a, a1, a2⟩]; rfl
theorem fn_law {f : Addr} {fd : FuncData} (T : Txt P w K mg base) (F : Fun K "law" "law" s_law f fd) : FnOk P w K mg base CX0 24 f fd ["script"] (sp_law K) := by
  refine fnOk_by F sc_law oc_law (fun vs H Q E h => ?_) (fun X e1 e2 e3 e4 e5 C H vs Q E h => ?_)
  · obtain ⟨a, ns, rfl, _⟩ := h; rfl
  · obtain ⟨a, ns, rfl, hS, hl, q⟩ := h
    wtm_at "go"
    wtm_at "w"
    refine ⟨a, ns, 0, 24, rfl, hS, by decide, by decide, by decide, by decide, fun r H1 rs k1 nr hr hrs => ?_⟩
    wtm_at "w"
    intro b H2 k2 nb hb
    have bx : Box H2 b r := ⟨0, rs, hb, by decide, k2.at0 hr⟩
    clear k1 k2 hr nr
    wtm_at "w"
    refine ⟨b, r, rfl, bx, fun pm n f H3 k3 b3 npm hpm n2 f2 => ?_⟩
    clear k3 bx hb
    wtm_at "w"
    refine ⟨b, r, 14, rfl, b3, by decide, fun d H4 d0 d1 k4 b4 => ?_⟩
    have m4 := k4.at1 (b3.neInts hpm) hpm
    obtain ⟨c, rfl⟩ := Int.eq_ofNat_of_zero_le d0
    clear k4 hpm b3
    wtm_at "w"
    rw [show 1 + (c : Int) = ((1 + c : Nat) : Int) by omega]
    refine ⟨b, r, pm, n, f, 1 + c, rfl, b4, m4, by omega, by omega, fun M ps ts H5 k5 b5 nM hM hT lp => ?_⟩
    have m5 := k5.at1 (b4.neInts m4) m4
    clear k5 m4 b4
    wtm_at "w"
    refine ⟨pm, M, n, f, ps, ts, rfl, m5, by omega, hM, hT, by omega, fun p kp sp ws H6 k6 np _ _ kn tk lw lw2 => ?_⟩
    have m6 := k6.at0 m5
    have b6 := b5.kp k6
    clear k6 m5 b5 hM hT
    wtm_at "w"
    refine ⟨pm, p, kp, sp, n, f, ws, rfl, m6, by omega, kn, fun z dx mx dR dE qs H7 k7 _ _ _ hL qo nq lq => ?_⟩
    have m7 := k7.at0 m6
    have b7 := b6.kp k7
    have kn7 : KnL X.K H7 n f p kp sp ws := car k7 kn
    have tk7 := tk.kp k7
    have ths : ∀ w ∈ ws, Th n f w.2.2.2.1 w.2.2.2.2 := fun w m => by obtain ⟨_, _, _, _, h⟩ := kn.at_ w m; exact h
    have know : Know n f (ksOf ws) qs := knowOf ths kn.dg kn.nd qo hL.only
    have li7 := hL.rd know
    have lpos : 0 < ws.length := lw (by omega)
    have kdg := kn.dg
    have knd := kn.nd
    have lws := kn.len
    have hes : ∀ w ∈ ws, esOf qs w.1 = w.2.2.2.2 := fun w mw => esOf_kn (ws := ws) (ths w mw) (qo.heads w mw) (qo.no w mw)
    have hle := lead_places (qs := qs) ths kdg knd hes
    clear k7 m6 b6 kn tk hL nq lq
    have m7' : H7 pm = some (.lst [.int n, .int f]) := m7
    wtm_at "w"
    refine ⟨pm, p, kp, sp, n, f, ws, ksOf ws, qs, rfl, m7, by omega, kn7, tk7, hle, fun E xs H8 k8 hE8 ed8 => ?_⟩
    have m8 := k8.at0 m7
    have b8 := b7.kp k8
    have kn8 : KnL X.K H8 n f p kp sp ws := car k8 kn7
    have tk8 := tk7.kp k8
    have li8 := li7.kpN k8 (fun l m => nomatch m)
    clear k8 m7 m7' b7 kn7 tk7 li7
    wtm_at "w"
    refine xs_forR1 (by assumption) (by wtm_at "m") T.b_range ?_
    wtm_at "w"
    refine ⟨8, rfl, by decide, by decide, fun t σ H' => ∃ (v6 v7 v8 v9 v10 v11 : Option V), σ = [some (.ref a), some (.ref b), some (.ref pm), some (.ref p), some (.ref z), some (.ref E), v6, v7, v8, v9, v10, v11] ∧ Box H' b r ∧ H' pm = some (.lst ([n, f].map V.int)) ∧ KnL X.K H' n f p kp sp ws ∧ TupK H' ws ∧ LibRd X.K T.C_Library T.C_Mixing H' z dx mx dR dE n f (ksOf ws) qs ∧ H' E = some (.dT (edKv xs)) ∧ EdAt H' E (ksOf ws) qs ws xs, ⟨_, _, _, _, _, _, rfl, b8, m8, kn8, tk8, li8, hE8, ed8⟩, ?_, ?_⟩
    · rintro t σ' H9 ht ⟨v6, v7, v8, v9, v10, v11, rfl, b9, m9, kn9, tk9, li9, hE9, ed9⟩
      clear b8 m8 kn8 tk8 li8 hE8 ed8
      wtm_at "w"
      have wat : ∀ {i : Nat} (hi : i < ws.length), ((ws.map fun w => w.2.1).map V.ref)[i]? = some (.ref ws[i].2.1) := fun {i} hi => by rw [List.map_map, List.getElem?_map, List.getElem?_eq_getElem hi]; rfl
      have hk9 := kn9.hk
      refine vx_lst (Z.SqL.of' kn9.hp) (at_nat (t := 0) (y := .ref kp) rfl) ?_
      wtm_at "w"
      refine vx_lst (Z.SqL.of' kn9.hp) (at_nat (t := 0) (y := .ref kp) rfl) ?_
      wtm_at "w"
      rw [List.length_map, List.length_map]
      refine ⟨b, r, _, rfl, b9, by omega, fun i1 H10 i10 i11 k10 b10 => ?_⟩
      obtain ⟨i1, rfl⟩ := Int.eq_ofNat_of_zero_le i10
      have i11 : i1 < ws.length := by omega
      have m10 := k10.at1 (b9.neInts m9) m9
      have kn10 : KnL X.K H10 n f p kp sp ws := carB b9 k10 kn9
      have li10 : LibRd X.K T.C_Library T.C_Mixing H10 z dx mx dR dE n f (ksOf ws) qs := carB b9 k10 li9
      have tk10 := tk9.kp k10
      have hE10 := b9.other k10 (by intro _ z; cases z) hE9
      have ed10 : EdAt H10 E (ksOf ws) qs ws xs := ⟨ed9.kn, fun x mx => k10.at1 (b9.neRefs (ed9.ls x mx)) (ed9.ls x mx)⟩
      clear k10 b9 m9 kn9 li9 tk9 hE9 ed9 i10 hk9
      have hk10 := kn10.hk
      refine vx_lst (Z.SqL.of' kn10.hk) (at_nat (wat i11)) ?_
      have mw1 : ws[i1] ∈ ws := List.getElem_mem i11
      generalize ws[i1] = w1 at mw1
      obtain ⟨e1', g11, g12, g13, th1⟩ := kn10.at_ w1 mw1
      wtm_at "w"
      refine vx_lst (Z.SqL.of' kn10.hp) (at_nat (t := 0) (y := .ref kp) rfl) ?_
      wtm_at "w"
      refine vx_lst (Z.SqL.of' kn10.hp) (at_nat (t := 0) (y := .ref kp) rfl) ?_
      wtm_at "w"
      rw [List.length_map, List.length_map]
      refine ⟨b, r, _, rfl, b10, by omega, fun i2 H11 i20 i21 k11 b11 => ?_⟩
      obtain ⟨i2, rfl⟩ := Int.eq_ofNat_of_zero_le i20
      have i21 : i2 < ws.length := by omega
      have m11 := k11.at1 (b10.neInts m10) m10
      have kn11 : KnL X.K H11 n f p kp sp ws := carB b10 k11 kn10
      have li11 : LibRd X.K T.C_Library T.C_Mixing H11 z dx mx dR dE n f (ksOf ws) qs := carB b10 k11 li10
      have tk11 := tk10.kp k11
      have hE11 := b10.other k11 (by intro _ z; cases z) hE10
      have ed11 : EdAt H11 E (ksOf ws) qs ws xs := ⟨ed10.kn, fun x mx => k11.at1 (b10.neRefs (ed10.ls x mx)) (ed10.ls x mx)⟩
      clear k11 b10 m10 kn10 li10 tk10 hE10 ed10 i20 hk10 g11 g12 g13
      refine vx_lst (Z.SqL.of' kn11.hk) (at_nat (wat i21)) ?_
      have mw2 : ws[i2] ∈ ws := List.getElem_mem i21
      generalize ws[i2] = w2 at mw2
      clear wat
      obtain ⟨e2', g21, g22, g23, th2⟩ := kn11.at_ w2 mw2
      wtm_at "w"
      have lk2 : lkA (ksOf ws) (dig n f w2.2.2.2.1) = some (w2.2.2.1, w2.2.2.2.1) := by rw [lkA_ksOf, ← kdg w2 mw2, lkW_nd knd w2 mw2]; rfl
      have lko : (ksOf ws).length ≤ 1000 := by unfold ksOf; rw [List.length_map]; omega
      have lk2n : lkA (ksOf ws) w2.1 ≠ none := by rw [kdg w2 mw2, lk2]; simp
      have th1 := ths w1 mw1
      have d1 := kdg w1 mw1
      have d2 := kdg w2 mw2
      refine ⟨pm, p, kp, sp, E, n, f, ws, qs, xs, w1, w2, rfl, m11, by omega, kn11, tk11, hE11, ed11, mw1, mw2, hes, fun hno H12 k12 => ?_, fun ss hss L us H12 k12 nL hL du => ?_⟩
      · have m12 := k12.at0 m11
        have b12 := b11.kp k12
        have kn12 : KnL X.K H12 n f p kp sp ws := car k12 kn11
        have tk12 := tk11.kp k12
        have li12 := li11.kpN k12 (fun l m => nomatch m)
        have hE12 := k12.at0 hE11
        have ed12 := ed11.kp k12
        clear k12 m11 b11 kn11 tk11 li11 hE11 ed11 g21 g22 g23
        wtm_at "w"
        refine xs_forR1 (by assumption) (by wtm_at "m") T.b_range ?_
        wtm_at "w"
        refine ⟨2, rfl, by decide, by decide, fun t' σ H' => ∃ (v10 v11 : Option V), σ = [some (.ref a), some (.ref b), some (.ref pm), some (.ref p), some (.ref z), some (.ref E), some (.int (t : Nat)), some (.ref w1.2.2.1), some (.ref w2.2.2.1), some .non, v10, v11] ∧ Kp [] H12 H', ⟨_, _, rfl, Kp.refl _ _⟩, ?_, ?_⟩
        · rintro t' σ' H13 ht' ⟨v10, v11, rfl, k13⟩
          have li13 := li12.kpN k13 (fun l m => nomatch m)
          have tk13 := tk12.kp k13
          have g1 := Z.SqT.of' (K := X.K) (tk13 w1 mw1)
          have g2 := Z.SqT.of' (K := X.K) (tk13 w2 mw2)
          have hid : Fr [] H12 H13 := k13
          clear k13
          wtm_at "w"
          refine xe_meth C (ok_path T) T.cl_Library (by omega) ?_
          wtm_at "w"
          refine ⟨z, dx, _, rfl, li13.ha, lib_no mx dR dE (by decide +kernel) (by decide +kernel) (by decide +kernel), ?_⟩
          wtm_at "w"
          refine ⟨z, mx, dR, dE, dx, w1.2.2.1, w2.2.2.1, n, f, w1.2.2.2.1, w2.2.2.2.1, ksOf ws, qs, rfl, li13, by omega, g1, g2, by rw [lk2]; simp, lko, fun _ H14 k14 => ?_, fun ss hss => (by rw [← d1, ← d2, hno] at hss; cases hss)⟩
          wtm_at "w"
          refine ite_d (fun _ => ?_) (fun h => absurd rfl h)
          wtm_at "w"
          refine ite_nd (fun h => absurd rfl h) (fun _ => ?_)
          wtm_at "w"
          exact ⟨_, _, rfl, hid.k.tr0 k14⟩
        · rintro σ' H13 ⟨v10, v11, rfl, k13⟩
          refine xb_nil ?_
          exact ⟨_, _, _, _, _, _, rfl, b12.kp k13, k13.at0 m12, car k13 kn12, tk12.kp k13, li12.kpN k13 (fun l m => nomatch m), k13.at0 hE12, ed12.kp k13⟩
      · have m12 := k12.at0 m11
        have b12 := b11.kp k12
        have kn12 : KnL X.K H12 n f p kp sp ws := car k12 kn11
        have tk12 := tk11.kp k12
        have li12 := li11.kpN k12 (fun l m => nomatch m)
        have hE12 := k12.at0 hE11
        have ed12 := ed11.kp k12
        have lss : ss.length ≤ 1000 := by
          obtain ⟨_, _, _, _, _, _, h9⟩ := path_due lk2n hss
          omega
        have lkw := path_link hss (folP_ok lk2n)
        have ok4 := stpsD_ok know lss lkw
        clear k12 m11 b11 kn11 tk11 li11 hE11 ed11 g21 g22 g23
        wtm_at "w"
        refine xs_forR1 (by assumption) (by wtm_at "m") T.b_range ?_
        wtm_at "w"
        refine ⟨2, rfl, by decide, by decide, fun t' σ H' => ∃ (v10 v11 : Option V), σ = [some (.ref a), some (.ref b), some (.ref pm), some (.ref p), some (.ref z), some (.ref E), some (.int (t : Nat)), some (.ref w1.2.2.1), some (.ref w2.2.2.1), some (.ref L), v10, v11] ∧ Kp [] H12 H', ⟨_, _, rfl, Kp.refl _ _⟩, ?_, ?_⟩
        · rintro t' σ' H13 ht' ⟨v10, v11, rfl, k13⟩
          have li13 := li12.kpN k13 (fun l m => nomatch m)
          have tk13 := tk12.kp k13
          have g1 := Z.SqT.of' (K := X.K) (tk13 w1 mw1)
          have g2 := Z.SqT.of' (K := X.K) (tk13 w2 mw2)
          have hL13 := k13.at0 hL
          have du13 := dpAll_kp k13 du
          have hid : Fr [] H12 H13 := k13
          clear k13
          wtm_at "w"
          refine xe_meth C (ok_path T) T.cl_Library (by omega) ?_
          wtm_at "w"
          refine ⟨z, dx, _, rfl, li13.ha, lib_no mx dR dE (by decide +kernel) (by decide +kernel) (by decide +kernel), ?_⟩
          wtm_at "w"
          refine ⟨z, mx, dR, dE, dx, w1.2.2.1, w2.2.2.1, n, f, w1.2.2.2.1, w2.2.2.2.1, ksOf ws, qs, rfl, li13, by omega, g1, g2, by rw [lk2]; simp, lko, fun hno => (by rw [← d1, ← d2, hss] at hno; cases hno), fun ss' hss' _ P1 H14 k14 nP hP => ?_⟩
          rw [← d1, ← d2, hss] at hss'
          have ess := Option.some.inj hss'
          subst ess
          obtain ⟨dpx, st, pv, hpp, hst, hdd, hfr, nst⟩ := hP
          have hL14 := k14.at0 hL13
          have du14 := dpAll_kp k14 du13
          have g1' := k14.tup g1
          have k24 := hid.k.tr0 k14
          have nst2 := hid.k.n _ nst
          clear k14 hL13 du13 g1 g2 hid tk13 li13
          wtm_at "w"
          refine ite_d (fun e => nomatch e) (fun _ => ?_)
          wtm_at "w"
          refine xe_glob (v := .ref T.C_Paper) C (by wtm_at "m") T.mg_Paper rfl ?_
          wtm_at "w"
          refine vc_isC T.is_Paper hpp ?_
          wtm_at "w"
          refine xe_fld ?_
          wtm_at "w"
          refine ⟨P1, _, dpx, _, _, rfl, hpp, T.cl_Paper, T.na_Paper_first, pap_f _ _, ?_⟩
          wtm_at "w"
          have p1 := plainS_T (ns := w1.2.2.2.1) (by have := th1.len; omega)
          refine ⟨_, _, .tuple (w1.2.2.2.1.map PyData.int), rfl, dp_T hfr, dp_T g1', by omega, p1.1, ?_⟩
          wtm_at "w"
          refine xe_fld ?_
          wtm_at "w"
          refine ⟨P1, _, dpx, _, _, rfl, hpp, T.cl_Paper, T.na_Paper_steps, pap_s _ _, ?_⟩
          wtm_at "w"
          refine ⟨_, _, .list (ss.map stpD), rfl, .lst (Z.SqL.of' hst) hdd, .lst (Z.SqL.of' hL14) du14, ok4.2, ok4.1, ?_⟩
          wtm_at "w"
          refine xe_fld ?_
          wtm_at "w"
          refine ⟨P1, _, dpx, _, _, rfl, hpp, T.cl_Paper, T.na_Paper_steps, pap_s _ _, ?_⟩
          refine ⟨st, pv, rfl, hst, ?_⟩
          refine xe_tup ?_
          refine xa_cons ?_
          wtm_at "w"
          refine xe_str ?_
          wtm_at "w"
          intro q1 H15 k15 _ _
          wtm_at "w"
          intro q2 H16 k16 _ _
          have lp := dpAll_len hdd
          rw [List.length_map] at lp
          refine ⟨k16.at0 (k15.at0 hst), szl (by omega), fun H17 k17 h17 => ?_⟩
          wtm_at "w"
          exact ⟨_, _, rfl, (k24.tr0 (k15.tr0 k16)).tr1 k17 (.inr nst2)⟩
        · rintro σ' H13 ⟨v10, v11, rfl, k13⟩
          refine xb_nil ?_
          exact ⟨_, _, _, _, _, _, rfl, b12.kp k13, k13.at0 m12, car k13 kn12, tk12.kp k13, li12.kpN k13 (fun l m => nomatch m), k13.at0 hE12, ed12.kp k13⟩
    · rintro σ' H9 ⟨v6, v7, v8, v9, v10, v11, rfl, _⟩
      wtm_at "w"
      exact q _
end
/-! the end -/
theorem all_mk {l : PySem.W.OpenLaw} {w : World} {K : PySem.W.Frag} {h : Heap} {mg : Str → Option Value} {fa f_digest f__mixed f_digest_of f_is_thing f__is_document f__is_head f_kind_of f__back_count f__greatest_step f__first_count f_root_of f__root_and_nodes f_way_of f_turns f_clash_of_entries f__first_difference f_listed f_is_right_round f__are_entries f__law_cell f__law_row f__law_draw f__law_is_integer f__law_same f__law_mix f__law_digest f__law_half f__law_root f__law_way f__law_backs f__law_pool f__law_pick f__law_head f__law_thing f__law_things f__law_places f__law_known f__law_filled f__law_edges f__law_steps_to f__law_due_path f_law f_Mixing___init__ f_Paper___init__ f_Library___init__ f_Library_put f_Library_path f_Library__following f_Library__row_with f_Library__first_place f_Library__whole_place f_Library__links_to f_Library__held_by f_ThingError___init__ C_Mixing C_Paper C_Library E_SealError E_ThingError : Addr} (X : K.In h) (G : h.Ns mainGlobals mg) (hfa : mg "law" = some (.ref fa))
    {nm_ThingError q_ThingError : Str} {N_ThingError : Addr} {bs_ThingError : List Value} {sn_ThingError : List Str} {sub_ThingError : List Value} {ab_ThingError : Bool} {col_ThingError : Option Bool} {dd_ThingError : Option Addr} {m0_ThingError m1_ThingError m2_ThingError m3_ThingError m5_ThingError : Option Value}
    {od_digest an_digest od__mixed an__mixed od_digest_of an_digest_of od_is_thing an_is_thing od__is_document an__is_document od__is_head an__is_head od_kind_of an_kind_of od__back_count an__back_count od__greatest_step an__greatest_step od__first_count an__first_count od_root_of an_root_of od__root_and_nodes an__root_and_nodes od_way_of an_way_of od_turns an_turns od_clash_of_entries an_clash_of_entries od__first_difference an__first_difference od_listed an_listed od_is_right_round an_is_right_round od__are_entries an__are_entries od__law_cell an__law_cell od__law_row an__law_row od__law_draw an__law_draw od__law_is_integer an__law_is_integer od__law_same an__law_same od__law_mix an__law_mix od__law_digest an__law_digest od__law_half an__law_half od__law_root an__law_root od__law_way an__law_way od__law_backs an__law_backs od__law_pool an__law_pool od__law_pick an__law_pick od__law_head an__law_head od__law_thing an__law_thing od__law_things an__law_things od__law_places an__law_places od__law_known an__law_known od__law_filled an__law_filled od__law_edges an__law_edges od__law_steps_to an__law_steps_to od__law_due_path an__law_due_path od_law an_law od_Mixing___init__ an_Mixing___init__ od_Paper___init__ an_Paper___init__ od_Library___init__ an_Library___init__ od_Library_put an_Library_put od_Library_path an_Library_path od_Library__following an_Library__following od_Library__row_with an_Library__row_with od_Library__first_place an_Library__first_place od_Library__whole_place an_Library__whole_place od_Library__links_to an_Library__links_to od_Library__held_by an_Library__held_by od_ThingError___init__ an_ThingError___init__ : Option Addr} {sl_digest sl__mixed sl_digest_of sl_is_thing sl__is_document sl__is_head sl_kind_of sl__back_count sl__greatest_step sl__first_count sl_root_of sl__root_and_nodes sl_way_of sl_turns sl_clash_of_entries sl__first_difference sl_listed sl_is_right_round sl__are_entries sl__law_cell sl__law_row sl__law_draw sl__law_is_integer sl__law_same sl__law_mix sl__law_digest sl__law_half sl__law_root sl__law_way sl__law_backs sl__law_pool sl__law_pick sl__law_head sl__law_thing sl__law_things sl__law_places sl__law_known sl__law_filled sl__law_edges sl__law_steps_to sl__law_due_path sl_law sl_Mixing___init__ sl_Paper___init__ sl_Library___init__ sl_Library_put sl_Library_path sl_Library__following sl_Library__row_with sl_Library__first_place sl_Library__whole_place sl_Library__links_to sl_Library__held_by sl_ThingError___init__ : Array (Option Value)} {oc_digest kV_digest dc_digest pm_digest ct_digest cd_digest oc__mixed kV__mixed dc__mixed pm__mixed ct__mixed cd__mixed oc_digest_of kV_digest_of dc_digest_of pm_digest_of ct_digest_of cd_digest_of oc_is_thing kV_is_thing dc_is_thing pm_is_thing ct_is_thing cd_is_thing oc__is_document kV__is_document dc__is_document pm__is_document ct__is_document cd__is_document oc__is_head kV__is_head dc__is_head pm__is_head ct__is_head cd__is_head oc_kind_of kV_kind_of dc_kind_of pm_kind_of ct_kind_of cd_kind_of oc__back_count kV__back_count dc__back_count pm__back_count ct__back_count cd__back_count oc__greatest_step kV__greatest_step dc__greatest_step pm__greatest_step ct__greatest_step cd__greatest_step oc__first_count kV__first_count dc__first_count pm__first_count ct__first_count cd__first_count oc_root_of kV_root_of dc_root_of pm_root_of ct_root_of cd_root_of oc__root_and_nodes kV__root_and_nodes dc__root_and_nodes pm__root_and_nodes ct__root_and_nodes cd__root_and_nodes oc_way_of kV_way_of dc_way_of pm_way_of ct_way_of cd_way_of oc_turns kV_turns dc_turns pm_turns ct_turns cd_turns oc_clash_of_entries kV_clash_of_entries dc_clash_of_entries pm_clash_of_entries ct_clash_of_entries cd_clash_of_entries oc__first_difference kV__first_difference dc__first_difference pm__first_difference ct__first_difference cd__first_difference oc_listed kV_listed dc_listed pm_listed ct_listed cd_listed oc_is_right_round kV_is_right_round dc_is_right_round pm_is_right_round ct_is_right_round cd_is_right_round oc__are_entries kV__are_entries dc__are_entries pm__are_entries ct__are_entries cd__are_entries oc__law_cell kV__law_cell dc__law_cell pm__law_cell ct__law_cell cd__law_cell oc__law_row kV__law_row dc__law_row pm__law_row ct__law_row cd__law_row oc__law_draw kV__law_draw dc__law_draw pm__law_draw ct__law_draw cd__law_draw oc__law_is_integer kV__law_is_integer dc__law_is_integer pm__law_is_integer ct__law_is_integer cd__law_is_integer oc__law_same kV__law_same dc__law_same pm__law_same ct__law_same cd__law_same oc__law_mix kV__law_mix dc__law_mix pm__law_mix ct__law_mix cd__law_mix oc__law_digest kV__law_digest dc__law_digest pm__law_digest ct__law_digest cd__law_digest oc__law_half kV__law_half dc__law_half pm__law_half ct__law_half cd__law_half oc__law_root kV__law_root dc__law_root pm__law_root ct__law_root cd__law_root oc__law_way kV__law_way dc__law_way pm__law_way ct__law_way cd__law_way oc__law_backs kV__law_backs dc__law_backs pm__law_backs ct__law_backs cd__law_backs oc__law_pool kV__law_pool dc__law_pool pm__law_pool ct__law_pool cd__law_pool oc__law_pick kV__law_pick dc__law_pick pm__law_pick ct__law_pick cd__law_pick oc__law_head kV__law_head dc__law_head pm__law_head ct__law_head cd__law_head oc__law_thing kV__law_thing dc__law_thing pm__law_thing ct__law_thing cd__law_thing oc__law_things kV__law_things dc__law_things pm__law_things ct__law_things cd__law_things oc__law_places kV__law_places dc__law_places pm__law_places ct__law_places cd__law_places oc__law_known kV__law_known dc__law_known pm__law_known ct__law_known cd__law_known oc__law_filled kV__law_filled dc__law_filled pm__law_filled ct__law_filled cd__law_filled oc__law_edges kV__law_edges dc__law_edges pm__law_edges ct__law_edges cd__law_edges oc__law_steps_to kV__law_steps_to dc__law_steps_to pm__law_steps_to ct__law_steps_to cd__law_steps_to oc__law_due_path kV__law_due_path dc__law_due_path pm__law_due_path ct__law_due_path cd__law_due_path oc_law kV_law dc_law pm_law ct_law cd_law oc_Mixing___init__ kV_Mixing___init__ dc_Mixing___init__ pm_Mixing___init__ ct_Mixing___init__ cd_Mixing___init__ oc_Paper___init__ kV_Paper___init__ dc_Paper___init__ pm_Paper___init__ ct_Paper___init__ cd_Paper___init__ oc_Library___init__ kV_Library___init__ dc_Library___init__ pm_Library___init__ ct_Library___init__ cd_Library___init__ oc_Library_put kV_Library_put dc_Library_put pm_Library_put ct_Library_put cd_Library_put oc_Library_path kV_Library_path dc_Library_path pm_Library_path ct_Library_path cd_Library_path oc_Library__following kV_Library__following dc_Library__following pm_Library__following ct_Library__following cd_Library__following oc_Library__row_with kV_Library__row_with dc_Library__row_with pm_Library__row_with ct_Library__row_with cd_Library__row_with oc_Library__first_place kV_Library__first_place dc_Library__first_place pm_Library__first_place ct_Library__first_place cd_Library__first_place oc_Library__whole_place kV_Library__whole_place dc_Library__whole_place pm_Library__whole_place ct_Library__whole_place cd_Library__whole_place oc_Library__links_to kV_Library__links_to dc_Library__links_to pm_Library__links_to ct_Library__links_to cd_Library__links_to oc_Library__held_by kV_Library__held_by dc_Library__held_by pm_Library__held_by ct_Library__held_by cd_Library__held_by oc_ThingError___init__ kV_ThingError___init__ dc_ThingError___init__ pm_ThingError___init__ ct_ThingError___init__ cd_ThingError___init__ : Value}
    {t_PRIME t_BEACON t_DOCUMENT t_HEAD t_RENEWAL t_NODE t_CITE t_BACK t_ENTRY : Tok}
    (aE_SealError : PySem.W.nsIn K mainGlobals "SealError" = some (some (.ref E_SealError)))
    (aE_ThingError : PySem.W.nsIn K mainGlobals "ThingError" = some (some (.ref E_ThingError)))
    (eX_SealError : PySem.W.subIn K (.ref E_SealError) (.type "BaseException") = some true)
    (eH_SealError : PySem.W.hasDictIn K E_SealError = true)
    (eT_SealError : PySem.W.typeIn K (.ref E_SealError) = some (.type "type"))
    (eX_ThingError : PySem.W.subIn K (.ref E_ThingError) (.type "BaseException") = some true)
    (eH_ThingError : PySem.W.hasDictIn K E_ThingError = true)
    (eT_ThingError : PySem.W.typeIn K (.ref E_ThingError) = some (.type "type"))
    (eN_ThingError_reason : PySem.W.findIn K (.ref E_ThingError) "reason" = some none)
    (eL_ThingError : K.lookup E_ThingError = some (excClassObj nm_ThingError q_ThingError E_ThingError N_ThingError bs_ThingError [.ref E_SealError, .type "ValueError", .type "Exception", .type "BaseException", .type "object"] true sn_ThingError sub_ThingError ab_ThingError col_ThingError dd_ThingError m0_ThingError m1_ThingError m2_ThingError m3_ThingError m5_ThingError "ValueError.__new__"))
    (eS_ThingError : PySem.W.findIn K (.ref E_ThingError) "__setattr__" = some (some (.builtin "object.__setattr__")))
    (eK_ThingError : PySem.W.keepIn K (.ref E_ThingError) = true)
    (eG_ThingError : PySem.W.findIn K (.ref E_ThingError) "__getattribute__" = some (some (.builtin "BaseException.__getattribute__")))
    (eA_ThingError : PySem.W.findIn K (.ref E_ThingError) "__getattr__" = some none)
    (eC_ThingError : PySem.W.findIn K (.ref E_ThingError) "__class__" = some (some (.builtin "object.__class__")))
    (eM_ThingError : PySem.W.mroIn K E_ThingError (.type "object") = some true)
    (eU_ThingError_ThingError : PySem.W.subIn K (.ref E_ThingError) (.ref E_ThingError) = some true)
    (eU_ThingError_SealError : PySem.W.subIn K (.ref E_ThingError) (.ref E_SealError) = some true)
    (eget : PySem.W.specialIn K (.builtin "object.__class__") "__get__" = some (some (.builtin "getset_descriptor.__get__")))
    (etk : PySem.W.takesIn K (.builtin "object.__class__") = some true)
    (aC_Mixing : PySem.W.nsIn K mainGlobals "Mixing" = some (some (.ref C_Mixing)))
    (aC_Paper : PySem.W.nsIn K mainGlobals "Paper" = some (some (.ref C_Paper)))
    (aC_Library : PySem.W.nsIn K mainGlobals "Library" = some (some (.ref C_Library)))
    (a_digest : PySem.W.nsIn K mainGlobals "digest" = some (some (.ref f_digest)))
    (l_digest : K.lookup f_digest = some ⟨oc_digest, od_digest, .func (PySem.W.fnOf "digest" "digest" (defArgs s_digest) (defBody s_digest) (defScope s_digest) .none kV_digest dc_digest pm_digest an_digest cd_digest ct_digest), sl_digest⟩)
    (c_digest : PySem.W.codeIn K cd_digest "digest" = true)
    (k_digest : PySem.W.keepIn K (.ref f_digest) = true)
    (a__mixed : PySem.W.nsIn K mainGlobals "_mixed" = some (some (.ref f__mixed)))
    (l__mixed : K.lookup f__mixed = some ⟨oc__mixed, od__mixed, .func (PySem.W.fnOf "_mixed" "_mixed" (defArgs s__mixed) (defBody s__mixed) (defScope s__mixed) .none kV__mixed dc__mixed pm__mixed an__mixed cd__mixed ct__mixed), sl__mixed⟩)
    (c__mixed : PySem.W.codeIn K cd__mixed "_mixed" = true)
    (k__mixed : PySem.W.keepIn K (.ref f__mixed) = true)
    (a_digest_of : PySem.W.nsIn K mainGlobals "digest_of" = some (some (.ref f_digest_of)))
    (l_digest_of : K.lookup f_digest_of = some ⟨oc_digest_of, od_digest_of, .func (PySem.W.fnOf "digest_of" "digest_of" (defArgs s_digest_of) (defBody s_digest_of) (defScope s_digest_of) .none kV_digest_of dc_digest_of pm_digest_of an_digest_of cd_digest_of ct_digest_of), sl_digest_of⟩)
    (c_digest_of : PySem.W.codeIn K cd_digest_of "digest_of" = true)
    (k_digest_of : PySem.W.keepIn K (.ref f_digest_of) = true)
    (a_is_thing : PySem.W.nsIn K mainGlobals "is_thing" = some (some (.ref f_is_thing)))
    (l_is_thing : K.lookup f_is_thing = some ⟨oc_is_thing, od_is_thing, .func (PySem.W.fnOf "is_thing" "is_thing" (defArgs s_is_thing) (defBody s_is_thing) (defScope s_is_thing) .none kV_is_thing dc_is_thing pm_is_thing an_is_thing cd_is_thing ct_is_thing), sl_is_thing⟩)
    (c_is_thing : PySem.W.codeIn K cd_is_thing "is_thing" = true)
    (k_is_thing : PySem.W.keepIn K (.ref f_is_thing) = true)
    (a__is_document : PySem.W.nsIn K mainGlobals "_is_document" = some (some (.ref f__is_document)))
    (l__is_document : K.lookup f__is_document = some ⟨oc__is_document, od__is_document, .func (PySem.W.fnOf "_is_document" "_is_document" (defArgs s__is_document) (defBody s__is_document) (defScope s__is_document) .none kV__is_document dc__is_document pm__is_document an__is_document cd__is_document ct__is_document), sl__is_document⟩)
    (c__is_document : PySem.W.codeIn K cd__is_document "_is_document" = true)
    (k__is_document : PySem.W.keepIn K (.ref f__is_document) = true)
    (a__is_head : PySem.W.nsIn K mainGlobals "_is_head" = some (some (.ref f__is_head)))
    (l__is_head : K.lookup f__is_head = some ⟨oc__is_head, od__is_head, .func (PySem.W.fnOf "_is_head" "_is_head" (defArgs s__is_head) (defBody s__is_head) (defScope s__is_head) .none kV__is_head dc__is_head pm__is_head an__is_head cd__is_head ct__is_head), sl__is_head⟩)
    (c__is_head : PySem.W.codeIn K cd__is_head "_is_head" = true)
    (k__is_head : PySem.W.keepIn K (.ref f__is_head) = true)
    (a_kind_of : PySem.W.nsIn K mainGlobals "kind_of" = some (some (.ref f_kind_of)))
    (l_kind_of : K.lookup f_kind_of = some ⟨oc_kind_of, od_kind_of, .func (PySem.W.fnOf "kind_of" "kind_of" (defArgs s_kind_of) (defBody s_kind_of) (defScope s_kind_of) .none kV_kind_of dc_kind_of pm_kind_of an_kind_of cd_kind_of ct_kind_of), sl_kind_of⟩)
    (c_kind_of : PySem.W.codeIn K cd_kind_of "kind_of" = true)
    (k_kind_of : PySem.W.keepIn K (.ref f_kind_of) = true)
    (a__back_count : PySem.W.nsIn K mainGlobals "_back_count" = some (some (.ref f__back_count)))
    (l__back_count : K.lookup f__back_count = some ⟨oc__back_count, od__back_count, .func (PySem.W.fnOf "_back_count" "_back_count" (defArgs s__back_count) (defBody s__back_count) (defScope s__back_count) .none kV__back_count dc__back_count pm__back_count an__back_count cd__back_count ct__back_count), sl__back_count⟩)
    (c__back_count : PySem.W.codeIn K cd__back_count "_back_count" = true)
    (k__back_count : PySem.W.keepIn K (.ref f__back_count) = true)
    (a__greatest_step : PySem.W.nsIn K mainGlobals "_greatest_step" = some (some (.ref f__greatest_step)))
    (l__greatest_step : K.lookup f__greatest_step = some ⟨oc__greatest_step, od__greatest_step, .func (PySem.W.fnOf "_greatest_step" "_greatest_step" (defArgs s__greatest_step) (defBody s__greatest_step) (defScope s__greatest_step) .none kV__greatest_step dc__greatest_step pm__greatest_step an__greatest_step cd__greatest_step ct__greatest_step), sl__greatest_step⟩)
    (c__greatest_step : PySem.W.codeIn K cd__greatest_step "_greatest_step" = true)
    (k__greatest_step : PySem.W.keepIn K (.ref f__greatest_step) = true)
    (a__first_count : PySem.W.nsIn K mainGlobals "_first_count" = some (some (.ref f__first_count)))
    (l__first_count : K.lookup f__first_count = some ⟨oc__first_count, od__first_count, .func (PySem.W.fnOf "_first_count" "_first_count" (defArgs s__first_count) (defBody s__first_count) (defScope s__first_count) .none kV__first_count dc__first_count pm__first_count an__first_count cd__first_count ct__first_count), sl__first_count⟩)
    (c__first_count : PySem.W.codeIn K cd__first_count "_first_count" = true)
    (k__first_count : PySem.W.keepIn K (.ref f__first_count) = true)
    (a_root_of : PySem.W.nsIn K mainGlobals "root_of" = some (some (.ref f_root_of)))
    (l_root_of : K.lookup f_root_of = some ⟨oc_root_of, od_root_of, .func (PySem.W.fnOf "root_of" "root_of" (defArgs s_root_of) (defBody s_root_of) (defScope s_root_of) .none kV_root_of dc_root_of pm_root_of an_root_of cd_root_of ct_root_of), sl_root_of⟩)
    (c_root_of : PySem.W.codeIn K cd_root_of "root_of" = true)
    (k_root_of : PySem.W.keepIn K (.ref f_root_of) = true)
    (a__root_and_nodes : PySem.W.nsIn K mainGlobals "_root_and_nodes" = some (some (.ref f__root_and_nodes)))
    (l__root_and_nodes : K.lookup f__root_and_nodes = some ⟨oc__root_and_nodes, od__root_and_nodes, .func (PySem.W.fnOf "_root_and_nodes" "_root_and_nodes" (defArgs s__root_and_nodes) (defBody s__root_and_nodes) (defScope s__root_and_nodes) .none kV__root_and_nodes dc__root_and_nodes pm__root_and_nodes an__root_and_nodes cd__root_and_nodes ct__root_and_nodes), sl__root_and_nodes⟩)
    (c__root_and_nodes : PySem.W.codeIn K cd__root_and_nodes "_root_and_nodes" = true)
    (k__root_and_nodes : PySem.W.keepIn K (.ref f__root_and_nodes) = true)
    (a_way_of : PySem.W.nsIn K mainGlobals "way_of" = some (some (.ref f_way_of)))
    (l_way_of : K.lookup f_way_of = some ⟨oc_way_of, od_way_of, .func (PySem.W.fnOf "way_of" "way_of" (defArgs s_way_of) (defBody s_way_of) (defScope s_way_of) .none kV_way_of dc_way_of pm_way_of an_way_of cd_way_of ct_way_of), sl_way_of⟩)
    (c_way_of : PySem.W.codeIn K cd_way_of "way_of" = true)
    (k_way_of : PySem.W.keepIn K (.ref f_way_of) = true)
    (a_turns : PySem.W.nsIn K mainGlobals "turns" = some (some (.ref f_turns)))
    (l_turns : K.lookup f_turns = some ⟨oc_turns, od_turns, .func (PySem.W.fnOf "turns" "turns" (defArgs s_turns) (defBody s_turns) (defScope s_turns) .none kV_turns dc_turns pm_turns an_turns cd_turns ct_turns), sl_turns⟩)
    (c_turns : PySem.W.codeIn K cd_turns "turns" = true)
    (k_turns : PySem.W.keepIn K (.ref f_turns) = true)
    (a_clash_of_entries : PySem.W.nsIn K mainGlobals "clash_of_entries" = some (some (.ref f_clash_of_entries)))
    (l_clash_of_entries : K.lookup f_clash_of_entries = some ⟨oc_clash_of_entries, od_clash_of_entries, .func (PySem.W.fnOf "clash_of_entries" "clash_of_entries" (defArgs s_clash_of_entries) (defBody s_clash_of_entries) (defScope s_clash_of_entries) .none kV_clash_of_entries dc_clash_of_entries pm_clash_of_entries an_clash_of_entries cd_clash_of_entries ct_clash_of_entries), sl_clash_of_entries⟩)
    (c_clash_of_entries : PySem.W.codeIn K cd_clash_of_entries "clash_of_entries" = true)
    (k_clash_of_entries : PySem.W.keepIn K (.ref f_clash_of_entries) = true)
    (a__first_difference : PySem.W.nsIn K mainGlobals "_first_difference" = some (some (.ref f__first_difference)))
    (l__first_difference : K.lookup f__first_difference = some ⟨oc__first_difference, od__first_difference, .func (PySem.W.fnOf "_first_difference" "_first_difference" (defArgs s__first_difference) (defBody s__first_difference) (defScope s__first_difference) .none kV__first_difference dc__first_difference pm__first_difference an__first_difference cd__first_difference ct__first_difference), sl__first_difference⟩)
    (c__first_difference : PySem.W.codeIn K cd__first_difference "_first_difference" = true)
    (k__first_difference : PySem.W.keepIn K (.ref f__first_difference) = true)
    (a_listed : PySem.W.nsIn K mainGlobals "listed" = some (some (.ref f_listed)))
    (l_listed : K.lookup f_listed = some ⟨oc_listed, od_listed, .func (PySem.W.fnOf "listed" "listed" (defArgs s_listed) (defBody s_listed) (defScope s_listed) .none kV_listed dc_listed pm_listed an_listed cd_listed ct_listed), sl_listed⟩)
    (c_listed : PySem.W.codeIn K cd_listed "listed" = true)
    (k_listed : PySem.W.keepIn K (.ref f_listed) = true)
    (a_is_right_round : PySem.W.nsIn K mainGlobals "is_right_round" = some (some (.ref f_is_right_round)))
    (l_is_right_round : K.lookup f_is_right_round = some ⟨oc_is_right_round, od_is_right_round, .func (PySem.W.fnOf "is_right_round" "is_right_round" (defArgs s_is_right_round) (defBody s_is_right_round) (defScope s_is_right_round) .none kV_is_right_round dc_is_right_round pm_is_right_round an_is_right_round cd_is_right_round ct_is_right_round), sl_is_right_round⟩)
    (c_is_right_round : PySem.W.codeIn K cd_is_right_round "is_right_round" = true)
    (k_is_right_round : PySem.W.keepIn K (.ref f_is_right_round) = true)
    (a__are_entries : PySem.W.nsIn K mainGlobals "_are_entries" = some (some (.ref f__are_entries)))
    (l__are_entries : K.lookup f__are_entries = some ⟨oc__are_entries, od__are_entries, .func (PySem.W.fnOf "_are_entries" "_are_entries" (defArgs s__are_entries) (defBody s__are_entries) (defScope s__are_entries) .none kV__are_entries dc__are_entries pm__are_entries an__are_entries cd__are_entries ct__are_entries), sl__are_entries⟩)
    (c__are_entries : PySem.W.codeIn K cd__are_entries "_are_entries" = true)
    (k__are_entries : PySem.W.keepIn K (.ref f__are_entries) = true)
    (a__law_cell : PySem.W.nsIn K mainGlobals "_law_cell" = some (some (.ref f__law_cell)))
    (l__law_cell : K.lookup f__law_cell = some ⟨oc__law_cell, od__law_cell, .func (PySem.W.fnOf "_law_cell" "_law_cell" (defArgs s__law_cell) (defBody s__law_cell) (defScope s__law_cell) .none kV__law_cell dc__law_cell pm__law_cell an__law_cell cd__law_cell ct__law_cell), sl__law_cell⟩)
    (c__law_cell : PySem.W.codeIn K cd__law_cell "_law_cell" = true)
    (k__law_cell : PySem.W.keepIn K (.ref f__law_cell) = true)
    (a__law_row : PySem.W.nsIn K mainGlobals "_law_row" = some (some (.ref f__law_row)))
    (l__law_row : K.lookup f__law_row = some ⟨oc__law_row, od__law_row, .func (PySem.W.fnOf "_law_row" "_law_row" (defArgs s__law_row) (defBody s__law_row) (defScope s__law_row) .none kV__law_row dc__law_row pm__law_row an__law_row cd__law_row ct__law_row), sl__law_row⟩)
    (c__law_row : PySem.W.codeIn K cd__law_row "_law_row" = true)
    (k__law_row : PySem.W.keepIn K (.ref f__law_row) = true)
    (a__law_draw : PySem.W.nsIn K mainGlobals "_law_draw" = some (some (.ref f__law_draw)))
    (l__law_draw : K.lookup f__law_draw = some ⟨oc__law_draw, od__law_draw, .func (PySem.W.fnOf "_law_draw" "_law_draw" (defArgs s__law_draw) (defBody s__law_draw) (defScope s__law_draw) .none kV__law_draw dc__law_draw pm__law_draw an__law_draw cd__law_draw ct__law_draw), sl__law_draw⟩)
    (c__law_draw : PySem.W.codeIn K cd__law_draw "_law_draw" = true)
    (k__law_draw : PySem.W.keepIn K (.ref f__law_draw) = true)
    (a__law_is_integer : PySem.W.nsIn K mainGlobals "_law_is_integer" = some (some (.ref f__law_is_integer)))
    (l__law_is_integer : K.lookup f__law_is_integer = some ⟨oc__law_is_integer, od__law_is_integer, .func (PySem.W.fnOf "_law_is_integer" "_law_is_integer" (defArgs s__law_is_integer) (defBody s__law_is_integer) (defScope s__law_is_integer) .none kV__law_is_integer dc__law_is_integer pm__law_is_integer an__law_is_integer cd__law_is_integer ct__law_is_integer), sl__law_is_integer⟩)
    (c__law_is_integer : PySem.W.codeIn K cd__law_is_integer "_law_is_integer" = true)
    (k__law_is_integer : PySem.W.keepIn K (.ref f__law_is_integer) = true)
    (a__law_same : PySem.W.nsIn K mainGlobals "_law_same" = some (some (.ref f__law_same)))
    (l__law_same : K.lookup f__law_same = some ⟨oc__law_same, od__law_same, .func (PySem.W.fnOf "_law_same" "_law_same" (defArgs s__law_same) (defBody s__law_same) (defScope s__law_same) .none kV__law_same dc__law_same pm__law_same an__law_same cd__law_same ct__law_same), sl__law_same⟩)
    (c__law_same : PySem.W.codeIn K cd__law_same "_law_same" = true)
    (k__law_same : PySem.W.keepIn K (.ref f__law_same) = true)
    (a__law_mix : PySem.W.nsIn K mainGlobals "_law_mix" = some (some (.ref f__law_mix)))
    (l__law_mix : K.lookup f__law_mix = some ⟨oc__law_mix, od__law_mix, .func (PySem.W.fnOf "_law_mix" "_law_mix" (defArgs s__law_mix) (defBody s__law_mix) (defScope s__law_mix) .none kV__law_mix dc__law_mix pm__law_mix an__law_mix cd__law_mix ct__law_mix), sl__law_mix⟩)
    (c__law_mix : PySem.W.codeIn K cd__law_mix "_law_mix" = true)
    (k__law_mix : PySem.W.keepIn K (.ref f__law_mix) = true)
    (a__law_digest : PySem.W.nsIn K mainGlobals "_law_digest" = some (some (.ref f__law_digest)))
    (l__law_digest : K.lookup f__law_digest = some ⟨oc__law_digest, od__law_digest, .func (PySem.W.fnOf "_law_digest" "_law_digest" (defArgs s__law_digest) (defBody s__law_digest) (defScope s__law_digest) .none kV__law_digest dc__law_digest pm__law_digest an__law_digest cd__law_digest ct__law_digest), sl__law_digest⟩)
    (c__law_digest : PySem.W.codeIn K cd__law_digest "_law_digest" = true)
    (k__law_digest : PySem.W.keepIn K (.ref f__law_digest) = true)
    (a__law_half : PySem.W.nsIn K mainGlobals "_law_half" = some (some (.ref f__law_half)))
    (l__law_half : K.lookup f__law_half = some ⟨oc__law_half, od__law_half, .func (PySem.W.fnOf "_law_half" "_law_half" (defArgs s__law_half) (defBody s__law_half) (defScope s__law_half) .none kV__law_half dc__law_half pm__law_half an__law_half cd__law_half ct__law_half), sl__law_half⟩)
    (c__law_half : PySem.W.codeIn K cd__law_half "_law_half" = true)
    (k__law_half : PySem.W.keepIn K (.ref f__law_half) = true)
    (a__law_root : PySem.W.nsIn K mainGlobals "_law_root" = some (some (.ref f__law_root)))
    (l__law_root : K.lookup f__law_root = some ⟨oc__law_root, od__law_root, .func (PySem.W.fnOf "_law_root" "_law_root" (defArgs s__law_root) (defBody s__law_root) (defScope s__law_root) .none kV__law_root dc__law_root pm__law_root an__law_root cd__law_root ct__law_root), sl__law_root⟩)
    (c__law_root : PySem.W.codeIn K cd__law_root "_law_root" = true)
    (k__law_root : PySem.W.keepIn K (.ref f__law_root) = true)
    (a__law_way : PySem.W.nsIn K mainGlobals "_law_way" = some (some (.ref f__law_way)))
    (l__law_way : K.lookup f__law_way = some ⟨oc__law_way, od__law_way, .func (PySem.W.fnOf "_law_way" "_law_way" (defArgs s__law_way) (defBody s__law_way) (defScope s__law_way) .none kV__law_way dc__law_way pm__law_way an__law_way cd__law_way ct__law_way), sl__law_way⟩)
    (c__law_way : PySem.W.codeIn K cd__law_way "_law_way" = true)
    (k__law_way : PySem.W.keepIn K (.ref f__law_way) = true)
    (a__law_backs : PySem.W.nsIn K mainGlobals "_law_backs" = some (some (.ref f__law_backs)))
    (l__law_backs : K.lookup f__law_backs = some ⟨oc__law_backs, od__law_backs, .func (PySem.W.fnOf "_law_backs" "_law_backs" (defArgs s__law_backs) (defBody s__law_backs) (defScope s__law_backs) .none kV__law_backs dc__law_backs pm__law_backs an__law_backs cd__law_backs ct__law_backs), sl__law_backs⟩)
    (c__law_backs : PySem.W.codeIn K cd__law_backs "_law_backs" = true)
    (k__law_backs : PySem.W.keepIn K (.ref f__law_backs) = true)
    (a__law_pool : PySem.W.nsIn K mainGlobals "_law_pool" = some (some (.ref f__law_pool)))
    (l__law_pool : K.lookup f__law_pool = some ⟨oc__law_pool, od__law_pool, .func (PySem.W.fnOf "_law_pool" "_law_pool" (defArgs s__law_pool) (defBody s__law_pool) (defScope s__law_pool) .none kV__law_pool dc__law_pool pm__law_pool an__law_pool cd__law_pool ct__law_pool), sl__law_pool⟩)
    (c__law_pool : PySem.W.codeIn K cd__law_pool "_law_pool" = true)
    (k__law_pool : PySem.W.keepIn K (.ref f__law_pool) = true)
    (a__law_pick : PySem.W.nsIn K mainGlobals "_law_pick" = some (some (.ref f__law_pick)))
    (l__law_pick : K.lookup f__law_pick = some ⟨oc__law_pick, od__law_pick, .func (PySem.W.fnOf "_law_pick" "_law_pick" (defArgs s__law_pick) (defBody s__law_pick) (defScope s__law_pick) .none kV__law_pick dc__law_pick pm__law_pick an__law_pick cd__law_pick ct__law_pick), sl__law_pick⟩)
    (c__law_pick : PySem.W.codeIn K cd__law_pick "_law_pick" = true)
    (k__law_pick : PySem.W.keepIn K (.ref f__law_pick) = true)
    (a__law_head : PySem.W.nsIn K mainGlobals "_law_head" = some (some (.ref f__law_head)))
    (l__law_head : K.lookup f__law_head = some ⟨oc__law_head, od__law_head, .func (PySem.W.fnOf "_law_head" "_law_head" (defArgs s__law_head) (defBody s__law_head) (defScope s__law_head) .none kV__law_head dc__law_head pm__law_head an__law_head cd__law_head ct__law_head), sl__law_head⟩)
    (c__law_head : PySem.W.codeIn K cd__law_head "_law_head" = true)
    (k__law_head : PySem.W.keepIn K (.ref f__law_head) = true)
    (a__law_thing : PySem.W.nsIn K mainGlobals "_law_thing" = some (some (.ref f__law_thing)))
    (l__law_thing : K.lookup f__law_thing = some ⟨oc__law_thing, od__law_thing, .func (PySem.W.fnOf "_law_thing" "_law_thing" (defArgs s__law_thing) (defBody s__law_thing) (defScope s__law_thing) .none kV__law_thing dc__law_thing pm__law_thing an__law_thing cd__law_thing ct__law_thing), sl__law_thing⟩)
    (c__law_thing : PySem.W.codeIn K cd__law_thing "_law_thing" = true)
    (k__law_thing : PySem.W.keepIn K (.ref f__law_thing) = true)
    (a__law_things : PySem.W.nsIn K mainGlobals "_law_things" = some (some (.ref f__law_things)))
    (l__law_things : K.lookup f__law_things = some ⟨oc__law_things, od__law_things, .func (PySem.W.fnOf "_law_things" "_law_things" (defArgs s__law_things) (defBody s__law_things) (defScope s__law_things) .none kV__law_things dc__law_things pm__law_things an__law_things cd__law_things ct__law_things), sl__law_things⟩)
    (c__law_things : PySem.W.codeIn K cd__law_things "_law_things" = true)
    (k__law_things : PySem.W.keepIn K (.ref f__law_things) = true)
    (a__law_places : PySem.W.nsIn K mainGlobals "_law_places" = some (some (.ref f__law_places)))
    (l__law_places : K.lookup f__law_places = some ⟨oc__law_places, od__law_places, .func (PySem.W.fnOf "_law_places" "_law_places" (defArgs s__law_places) (defBody s__law_places) (defScope s__law_places) .none kV__law_places dc__law_places pm__law_places an__law_places cd__law_places ct__law_places), sl__law_places⟩)
    (c__law_places : PySem.W.codeIn K cd__law_places "_law_places" = true)
    (k__law_places : PySem.W.keepIn K (.ref f__law_places) = true)
    (a__law_known : PySem.W.nsIn K mainGlobals "_law_known" = some (some (.ref f__law_known)))
    (l__law_known : K.lookup f__law_known = some ⟨oc__law_known, od__law_known, .func (PySem.W.fnOf "_law_known" "_law_known" (defArgs s__law_known) (defBody s__law_known) (defScope s__law_known) .none kV__law_known dc__law_known pm__law_known an__law_known cd__law_known ct__law_known), sl__law_known⟩)
    (c__law_known : PySem.W.codeIn K cd__law_known "_law_known" = true)
    (k__law_known : PySem.W.keepIn K (.ref f__law_known) = true)
    (a__law_filled : PySem.W.nsIn K mainGlobals "_law_filled" = some (some (.ref f__law_filled)))
    (l__law_filled : K.lookup f__law_filled = some ⟨oc__law_filled, od__law_filled, .func (PySem.W.fnOf "_law_filled" "_law_filled" (defArgs s__law_filled) (defBody s__law_filled) (defScope s__law_filled) .none kV__law_filled dc__law_filled pm__law_filled an__law_filled cd__law_filled ct__law_filled), sl__law_filled⟩)
    (c__law_filled : PySem.W.codeIn K cd__law_filled "_law_filled" = true)
    (k__law_filled : PySem.W.keepIn K (.ref f__law_filled) = true)
    (a__law_edges : PySem.W.nsIn K mainGlobals "_law_edges" = some (some (.ref f__law_edges)))
    (l__law_edges : K.lookup f__law_edges = some ⟨oc__law_edges, od__law_edges, .func (PySem.W.fnOf "_law_edges" "_law_edges" (defArgs s__law_edges) (defBody s__law_edges) (defScope s__law_edges) .none kV__law_edges dc__law_edges pm__law_edges an__law_edges cd__law_edges ct__law_edges), sl__law_edges⟩)
    (c__law_edges : PySem.W.codeIn K cd__law_edges "_law_edges" = true)
    (k__law_edges : PySem.W.keepIn K (.ref f__law_edges) = true)
    (a__law_steps_to : PySem.W.nsIn K mainGlobals "_law_steps_to" = some (some (.ref f__law_steps_to)))
    (l__law_steps_to : K.lookup f__law_steps_to = some ⟨oc__law_steps_to, od__law_steps_to, .func (PySem.W.fnOf "_law_steps_to" "_law_steps_to" (defArgs s__law_steps_to) (defBody s__law_steps_to) (defScope s__law_steps_to) .none kV__law_steps_to dc__law_steps_to pm__law_steps_to an__law_steps_to cd__law_steps_to ct__law_steps_to), sl__law_steps_to⟩)
    (c__law_steps_to : PySem.W.codeIn K cd__law_steps_to "_law_steps_to" = true)
    (k__law_steps_to : PySem.W.keepIn K (.ref f__law_steps_to) = true)
    (a__law_due_path : PySem.W.nsIn K mainGlobals "_law_due_path" = some (some (.ref f__law_due_path)))
    (l__law_due_path : K.lookup f__law_due_path = some ⟨oc__law_due_path, od__law_due_path, .func (PySem.W.fnOf "_law_due_path" "_law_due_path" (defArgs s__law_due_path) (defBody s__law_due_path) (defScope s__law_due_path) .none kV__law_due_path dc__law_due_path pm__law_due_path an__law_due_path cd__law_due_path ct__law_due_path), sl__law_due_path⟩)
    (c__law_due_path : PySem.W.codeIn K cd__law_due_path "_law_due_path" = true)
    (k__law_due_path : PySem.W.keepIn K (.ref f__law_due_path) = true)
    (a_law : PySem.W.nsIn K mainGlobals "law" = some (some (.ref f_law)))
    (l_law : K.lookup f_law = some ⟨oc_law, od_law, .func (PySem.W.fnOf "law" "law" (defArgs s_law) (defBody s_law) (defScope s_law) .none kV_law dc_law pm_law an_law cd_law ct_law), sl_law⟩)
    (c_law : PySem.W.codeIn K cd_law "law" = true)
    (k_law : PySem.W.keepIn K (.ref f_law) = true)
    (a_Mixing___init__ : PySem.W.findIn K (.ref C_Mixing) "__init__" = some (some (.ref f_Mixing___init__)))
    (i_Mixing___init__ : PySem.W.isFn K (.ref f_Mixing___init__) = true)
    (l_Mixing___init__ : K.lookup f_Mixing___init__ = some ⟨oc_Mixing___init__, od_Mixing___init__, .func (PySem.W.fnOf "__init__" "Mixing.__init__" (defArgs s_Mixing___init__) (defBody s_Mixing___init__) (defScope s_Mixing___init__) .none kV_Mixing___init__ dc_Mixing___init__ pm_Mixing___init__ an_Mixing___init__ cd_Mixing___init__ ct_Mixing___init__), sl_Mixing___init__⟩)
    (c_Mixing___init__ : PySem.W.codeIn K cd_Mixing___init__ "Mixing.__init__" = true)
    (k_Mixing___init__ : PySem.W.keepIn K (.ref f_Mixing___init__) = true)
    (a_Paper___init__ : PySem.W.findIn K (.ref C_Paper) "__init__" = some (some (.ref f_Paper___init__)))
    (i_Paper___init__ : PySem.W.isFn K (.ref f_Paper___init__) = true)
    (l_Paper___init__ : K.lookup f_Paper___init__ = some ⟨oc_Paper___init__, od_Paper___init__, .func (PySem.W.fnOf "__init__" "Paper.__init__" (defArgs s_Paper___init__) (defBody s_Paper___init__) (defScope s_Paper___init__) .none kV_Paper___init__ dc_Paper___init__ pm_Paper___init__ an_Paper___init__ cd_Paper___init__ ct_Paper___init__), sl_Paper___init__⟩)
    (c_Paper___init__ : PySem.W.codeIn K cd_Paper___init__ "Paper.__init__" = true)
    (k_Paper___init__ : PySem.W.keepIn K (.ref f_Paper___init__) = true)
    (a_Library___init__ : PySem.W.findIn K (.ref C_Library) "__init__" = some (some (.ref f_Library___init__)))
    (i_Library___init__ : PySem.W.isFn K (.ref f_Library___init__) = true)
    (l_Library___init__ : K.lookup f_Library___init__ = some ⟨oc_Library___init__, od_Library___init__, .func (PySem.W.fnOf "__init__" "Library.__init__" (defArgs s_Library___init__) (defBody s_Library___init__) (defScope s_Library___init__) .none kV_Library___init__ dc_Library___init__ pm_Library___init__ an_Library___init__ cd_Library___init__ ct_Library___init__), sl_Library___init__⟩)
    (c_Library___init__ : PySem.W.codeIn K cd_Library___init__ "Library.__init__" = true)
    (k_Library___init__ : PySem.W.keepIn K (.ref f_Library___init__) = true)
    (a_Library_put : PySem.W.findIn K (.ref C_Library) "put" = some (some (.ref f_Library_put)))
    (i_Library_put : PySem.W.isFn K (.ref f_Library_put) = true)
    (l_Library_put : K.lookup f_Library_put = some ⟨oc_Library_put, od_Library_put, .func (PySem.W.fnOf "put" "Library.put" (defArgs s_Library_put) (defBody s_Library_put) (defScope s_Library_put) .none kV_Library_put dc_Library_put pm_Library_put an_Library_put cd_Library_put ct_Library_put), sl_Library_put⟩)
    (c_Library_put : PySem.W.codeIn K cd_Library_put "Library.put" = true)
    (k_Library_put : PySem.W.keepIn K (.ref f_Library_put) = true)
    (a_Library_path : PySem.W.findIn K (.ref C_Library) "path" = some (some (.ref f_Library_path)))
    (i_Library_path : PySem.W.isFn K (.ref f_Library_path) = true)
    (l_Library_path : K.lookup f_Library_path = some ⟨oc_Library_path, od_Library_path, .func (PySem.W.fnOf "path" "Library.path" (defArgs s_Library_path) (defBody s_Library_path) (defScope s_Library_path) .none kV_Library_path dc_Library_path pm_Library_path an_Library_path cd_Library_path ct_Library_path), sl_Library_path⟩)
    (c_Library_path : PySem.W.codeIn K cd_Library_path "Library.path" = true)
    (k_Library_path : PySem.W.keepIn K (.ref f_Library_path) = true)
    (a_Library__following : PySem.W.findIn K (.ref C_Library) "_following" = some (some (.ref f_Library__following)))
    (i_Library__following : PySem.W.isFn K (.ref f_Library__following) = true)
    (l_Library__following : K.lookup f_Library__following = some ⟨oc_Library__following, od_Library__following, .func (PySem.W.fnOf "_following" "Library._following" (defArgs s_Library__following) (defBody s_Library__following) (defScope s_Library__following) .none kV_Library__following dc_Library__following pm_Library__following an_Library__following cd_Library__following ct_Library__following), sl_Library__following⟩)
    (c_Library__following : PySem.W.codeIn K cd_Library__following "Library._following" = true)
    (k_Library__following : PySem.W.keepIn K (.ref f_Library__following) = true)
    (a_Library__row_with : PySem.W.findIn K (.ref C_Library) "_row_with" = some (some (.ref f_Library__row_with)))
    (i_Library__row_with : PySem.W.isFn K (.ref f_Library__row_with) = true)
    (bg_Library__row_with : PySem.W.specialIn K (.ref f_Library__row_with) "__get__" = some (some (.builtin "function.__get__")))
    (bt_Library__row_with : PySem.W.takesIn K (.ref f_Library__row_with) = some false)
    (bf_Library__row_with : PySem.W.fnIn K f_Library__row_with = true)
    (l_Library__row_with : K.lookup f_Library__row_with = some ⟨oc_Library__row_with, od_Library__row_with, .func (PySem.W.fnOf "_row_with" "Library._row_with" (defArgs s_Library__row_with) (defBody s_Library__row_with) (defScope s_Library__row_with) .none kV_Library__row_with dc_Library__row_with pm_Library__row_with an_Library__row_with cd_Library__row_with ct_Library__row_with), sl_Library__row_with⟩)
    (c_Library__row_with : PySem.W.codeIn K cd_Library__row_with "Library._row_with" = true)
    (k_Library__row_with : PySem.W.keepIn K (.ref f_Library__row_with) = true)
    (a_Library__first_place : PySem.W.findIn K (.ref C_Library) "_first_place" = some (some (.ref f_Library__first_place)))
    (i_Library__first_place : PySem.W.isFn K (.ref f_Library__first_place) = true)
    (l_Library__first_place : K.lookup f_Library__first_place = some ⟨oc_Library__first_place, od_Library__first_place, .func (PySem.W.fnOf "_first_place" "Library._first_place" (defArgs s_Library__first_place) (defBody s_Library__first_place) (defScope s_Library__first_place) .none kV_Library__first_place dc_Library__first_place pm_Library__first_place an_Library__first_place cd_Library__first_place ct_Library__first_place), sl_Library__first_place⟩)
    (c_Library__first_place : PySem.W.codeIn K cd_Library__first_place "Library._first_place" = true)
    (k_Library__first_place : PySem.W.keepIn K (.ref f_Library__first_place) = true)
    (a_Library__whole_place : PySem.W.findIn K (.ref C_Library) "_whole_place" = some (some (.ref f_Library__whole_place)))
    (i_Library__whole_place : PySem.W.isFn K (.ref f_Library__whole_place) = true)
    (l_Library__whole_place : K.lookup f_Library__whole_place = some ⟨oc_Library__whole_place, od_Library__whole_place, .func (PySem.W.fnOf "_whole_place" "Library._whole_place" (defArgs s_Library__whole_place) (defBody s_Library__whole_place) (defScope s_Library__whole_place) .none kV_Library__whole_place dc_Library__whole_place pm_Library__whole_place an_Library__whole_place cd_Library__whole_place ct_Library__whole_place), sl_Library__whole_place⟩)
    (c_Library__whole_place : PySem.W.codeIn K cd_Library__whole_place "Library._whole_place" = true)
    (k_Library__whole_place : PySem.W.keepIn K (.ref f_Library__whole_place) = true)
    (a_Library__links_to : PySem.W.findIn K (.ref C_Library) "_links_to" = some (some (.ref f_Library__links_to)))
    (i_Library__links_to : PySem.W.isFn K (.ref f_Library__links_to) = true)
    (l_Library__links_to : K.lookup f_Library__links_to = some ⟨oc_Library__links_to, od_Library__links_to, .func (PySem.W.fnOf "_links_to" "Library._links_to" (defArgs s_Library__links_to) (defBody s_Library__links_to) (defScope s_Library__links_to) .none kV_Library__links_to dc_Library__links_to pm_Library__links_to an_Library__links_to cd_Library__links_to ct_Library__links_to), sl_Library__links_to⟩)
    (c_Library__links_to : PySem.W.codeIn K cd_Library__links_to "Library._links_to" = true)
    (k_Library__links_to : PySem.W.keepIn K (.ref f_Library__links_to) = true)
    (a_Library__held_by : PySem.W.findIn K (.ref C_Library) "_held_by" = some (some (.ref f_Library__held_by)))
    (i_Library__held_by : PySem.W.isFn K (.ref f_Library__held_by) = true)
    (l_Library__held_by : K.lookup f_Library__held_by = some ⟨oc_Library__held_by, od_Library__held_by, .func (PySem.W.fnOf "_held_by" "Library._held_by" (defArgs s_Library__held_by) (defBody s_Library__held_by) (defScope s_Library__held_by) .none kV_Library__held_by dc_Library__held_by pm_Library__held_by an_Library__held_by cd_Library__held_by ct_Library__held_by), sl_Library__held_by⟩)
    (c_Library__held_by : PySem.W.codeIn K cd_Library__held_by "Library._held_by" = true)
    (k_Library__held_by : PySem.W.keepIn K (.ref f_Library__held_by) = true)
    (a_ThingError___init__ : PySem.W.findIn K (.ref E_ThingError) "__init__" = some (some (.ref f_ThingError___init__)))
    (i_ThingError___init__ : PySem.W.typeIn K (.ref f_ThingError___init__) = some (.type "function"))
    (l_ThingError___init__ : K.lookup f_ThingError___init__ = some ⟨oc_ThingError___init__, od_ThingError___init__, .func (PySem.W.fnOf "__init__" "ThingError.__init__" (defArgs s_ThingError___init__) (defBody s_ThingError___init__) (defScope s_ThingError___init__) .none kV_ThingError___init__ dc_ThingError___init__ pm_ThingError___init__ an_ThingError___init__ cd_ThingError___init__ ct_ThingError___init__), sl_ThingError___init__⟩)
    (c_ThingError___init__ : PySem.W.codeIn K cd_ThingError___init__ "ThingError.__init__" = true)
    (k_ThingError___init__ : PySem.W.keepIn K (.ref f_ThingError___init__) = true)
    (pg_Mixing : PySem.W.plainGet K C_Mixing Str.empty = true)
    (hd_Mixing : PySem.W.hasDictIn K C_Mixing = true)
    (po_Mixing : PySem.W.plainOver K C_Mixing = true)
    (sa_Mixing : PySem.W.findIn K (.ref C_Mixing) "__setattr__" = some (some (.builtin "object.__setattr__")))
    (mk_Mixing : PySem.W.makesIn K C_Mixing = true)
    (kc_Mixing : PySem.W.keepIn K (.ref C_Mixing) = true)
    (n_Mixing_bound : PySem.W.findIn K (.ref C_Mixing) "bound" = some none)
    (n_Mixing_factor : PySem.W.findIn K (.ref C_Mixing) "factor" = some none)
    (pg_Paper : PySem.W.plainGet K C_Paper Str.empty = true)
    (hd_Paper : PySem.W.hasDictIn K C_Paper = true)
    (po_Paper : PySem.W.plainOver K C_Paper = true)
    (sa_Paper : PySem.W.findIn K (.ref C_Paper) "__setattr__" = some (some (.builtin "object.__setattr__")))
    (mk_Paper : PySem.W.makesIn K C_Paper = true)
    (kc_Paper : PySem.W.keepIn K (.ref C_Paper) = true)
    (ia_Paper : PySem.W.findIn K (.ref C_Paper) "__class__" = some (some (.builtin "object.__class__")))
    (im_Paper : PySem.W.mroIn K C_Paper (.type "object") = some true)
    (n_Paper_first : PySem.W.findIn K (.ref C_Paper) "first" = some none)
    (n_Paper_steps : PySem.W.findIn K (.ref C_Paper) "steps" = some none)
    (pg_Library : PySem.W.plainGet K C_Library Str.empty = true)
    (hd_Library : PySem.W.hasDictIn K C_Library = true)
    (po_Library : PySem.W.plainOver K C_Library = true)
    (sa_Library : PySem.W.findIn K (.ref C_Library) "__setattr__" = some (some (.builtin "object.__setattr__")))
    (mk_Library : PySem.W.makesIn K C_Library = true)
    (kc_Library : PySem.W.keepIn K (.ref C_Library) = true)
    (n_Library__entries : PySem.W.findIn K (.ref C_Library) "_entries" = some none)
    (n_Library__rows : PySem.W.findIn K (.ref C_Library) "_rows" = some none)
    (n_Library_mixing : PySem.W.findIn K (.ref C_Library) "mixing" = some none)
    (z_abs : PySem.W.nsIn K mainGlobals "abs" = some none)
    (z_bool : PySem.W.nsIn K mainGlobals "bool" = some none)
    (z_enumerate : PySem.W.nsIn K mainGlobals "enumerate" = some none)
    (z_int : PySem.W.nsIn K mainGlobals "int" = some none)
    (z_isinstance : PySem.W.nsIn K mainGlobals "isinstance" = some none)
    (z_len : PySem.W.nsIn K mainGlobals "len" = some none)
    (z_list : PySem.W.nsIn K mainGlobals "list" = some none)
    (z_min : PySem.W.nsIn K mainGlobals "min" = some none)
    (z_range : PySem.W.nsIn K mainGlobals "range" = some none)
    (z_sorted : PySem.W.nsIn K mainGlobals "sorted" = some none)
    (z_str : PySem.W.nsIn K mainGlobals "str" = some none)
    (z_tuple : PySem.W.nsIn K mainGlobals "tuple" = some none)
    (z_zip : PySem.W.nsIn K mainGlobals "zip" = some none)
    (v_PRIME : PySem.W.nsIn K mainGlobals "PRIME" = some (some (.int 2305843009213693951 t_PRIME)))
    (v_BEACON : PySem.W.nsIn K mainGlobals "BEACON" = some (some (.int 1 t_BEACON)))
    (v_DOCUMENT : PySem.W.nsIn K mainGlobals "DOCUMENT" = some (some (.int 2 t_DOCUMENT)))
    (v_HEAD : PySem.W.nsIn K mainGlobals "HEAD" = some (some (.int 4 t_HEAD)))
    (v_RENEWAL : PySem.W.nsIn K mainGlobals "RENEWAL" = some (some (.int 5 t_RENEWAL)))
    (v_NODE : PySem.W.nsIn K mainGlobals "NODE" = some (some (.int 3 t_NODE)))
    (v_CITE : PySem.W.nsIn K mainGlobals "CITE" = some (some (.str "cite" t_CITE)))
    (v_BACK : PySem.W.nsIn K mainGlobals "BACK" = some (some (.str "back" t_BACK)))
    (v_ENTRY : PySem.W.nsIn K mainGlobals "ENTRY" = some (some (.str "entry" t_ENTRY)))
    : ∃ fd : FuncData, (∀ (s : Shared) (v : Value), BindsTo s fd ⟨[v], []⟩ [("script", v)]) ∧ ∀ base : Heap, K.In base → base.Ns mainGlobals mg → FnOk l.prog w K mg base CX0 24 fa fd ["script"] (sp_law K) := by
  have e := hfa.symm.trans (PySem.W.mg_of X G a_law)
  cases e
  have F_digest := fun_mk (st := s_digest) l_digest c_digest k_digest
  have b_digest := F_digest.binds (ps := ["mixing", "row"]) fun _ _ _ _ _ _ us hl => match us, hl with | [_, _], _ => rfl
  have F__mixed := fun_mk (st := s__mixed) l__mixed c__mixed k__mixed
  have b__mixed := F__mixed.binds (ps := ["mixing", "state", "number"]) fun _ _ _ _ _ _ us hl => match us, hl with | [_, _, _], _ => rfl
  have F_digest_of := fun_mk (st := s_digest_of) l_digest_of c_digest_of k_digest_of
  have b_digest_of := F_digest_of.binds (ps := ["mixing", "row"]) fun _ _ _ _ _ _ us hl => match us, hl with | [_, _], _ => rfl
  have F_is_thing := fun_mk (st := s_is_thing) l_is_thing c_is_thing k_is_thing
  have b_is_thing := F_is_thing.binds (ps := ["row"]) fun _ _ _ _ _ _ us hl => match us, hl with | [_], _ => rfl
  have F__is_document := fun_mk (st := s__is_document) l__is_document c__is_document k__is_document
  have b__is_document := F__is_document.binds (ps := ["row"]) fun _ _ _ _ _ _ us hl => match us, hl with | [_], _ => rfl
  have F__is_head := fun_mk (st := s__is_head) l__is_head c__is_head k__is_head
  have b__is_head := F__is_head.binds (ps := ["row"]) fun _ _ _ _ _ _ us hl => match us, hl with | [_], _ => rfl
  have F_kind_of := fun_mk (st := s_kind_of) l_kind_of c_kind_of k_kind_of
  have b_kind_of := F_kind_of.binds (ps := ["row"]) fun _ _ _ _ _ _ us hl => match us, hl with | [_], _ => rfl
  have F__back_count := fun_mk (st := s__back_count) l__back_count c__back_count k__back_count
  have b__back_count := F__back_count.binds (ps := ["number"]) fun _ _ _ _ _ _ us hl => match us, hl with | [_], _ => rfl
  have F__greatest_step := fun_mk (st := s__greatest_step) l__greatest_step c__greatest_step k__greatest_step
  have b__greatest_step := F__greatest_step.binds (ps := ["number"]) fun _ _ _ _ _ _ us hl => match us, hl with | [_], _ => rfl
  have F__first_count := fun_mk (st := s__first_count) l__first_count c__first_count k__first_count
  have b__first_count := F__first_count.binds (ps := ["count"]) fun _ _ _ _ _ _ us hl => match us, hl with | [_], _ => rfl
  have F_root_of := fun_mk (st := s_root_of) l_root_of c_root_of k_root_of
  have b_root_of := F_root_of.binds (ps := ["mixing", "entries"]) fun _ _ _ _ _ _ us hl => match us, hl with | [_, _], _ => rfl
  have F__root_and_nodes := fun_mk (st := s__root_and_nodes) l__root_and_nodes c__root_and_nodes k__root_and_nodes
  have b__root_and_nodes := F__root_and_nodes.binds (ps := ["mixing", "entries"]) fun _ _ _ _ _ _ us hl => match us, hl with | [_, _], _ => rfl
  have F_way_of := fun_mk (st := s_way_of) l_way_of c_way_of k_way_of
  have b_way_of := F_way_of.binds (ps := ["mixing", "entries", "index"]) fun _ _ _ _ _ _ us hl => match us, hl with | [_, _, _], _ => rfl
  have F_turns := fun_mk (st := s_turns) l_turns c_turns k_turns
  have b_turns := F_turns.binds (ps := ["count", "index"]) fun _ _ _ _ _ _ us hl => match us, hl with | [_, _], _ => rfl
  have F_clash_of_entries := fun_mk (st := s_clash_of_entries) l_clash_of_entries c_clash_of_entries k_clash_of_entries
  have b_clash_of_entries := F_clash_of_entries.binds (ps := ["mixing", "one", "two"]) fun _ _ _ _ _ _ us hl => match us, hl with | [_, _, _], _ => rfl
  have F__first_difference := fun_mk (st := s__first_difference) l__first_difference c__first_difference k__first_difference
  have b__first_difference := F__first_difference.binds (ps := ["one_nodes", "two_nodes"]) fun _ _ _ _ _ _ us hl => match us, hl with | [_, _], _ => rfl
  have F_listed := fun_mk (st := s_listed) l_listed c_listed k_listed
  have b_listed := F_listed.binds (ps := ["row", "word"]) fun _ _ _ _ _ _ us hl => match us, hl with | [_, _], _ => rfl
  have F_is_right_round := fun_mk (st := s_is_right_round) l_is_right_round c_is_right_round k_is_right_round
  have b_is_right_round := F_is_right_round.binds (ps := ["before", "row", "place"]) fun _ _ _ _ _ _ us hl => match us, hl with | [_, _, _], _ => rfl
  have F__are_entries := fun_mk (st := s__are_entries) l__are_entries c__are_entries k__are_entries
  have b__are_entries := F__are_entries.binds (ps := ["mixing", "row", "entries"]) fun _ _ _ _ _ _ us hl => match us, hl with | [_, _, _], _ => rfl
  have F__law_cell := fun_mk (st := s__law_cell) l__law_cell c__law_cell k__law_cell
  have b__law_cell := F__law_cell.binds (ps := ["script", "k"]) fun _ _ _ _ _ _ us hl => match us, hl with | [_, _], _ => rfl
  have F__law_row := fun_mk (st := s__law_row) l__law_row c__law_row k__law_row
  have b__law_row := F__law_row.binds (ps := ["script", "first", "last"]) fun _ _ _ _ _ _ us hl => match us, hl with | [_, _, _], _ => rfl
  have F__law_draw := fun_mk (st := s__law_draw) l__law_draw c__law_draw k__law_draw
  have b__law_draw := F__law_draw.binds (ps := ["box", "many"]) fun _ _ _ _ _ _ us hl => match us, hl with | [_, _], _ => rfl
  have F__law_is_integer := fun_mk (st := s__law_is_integer) l__law_is_integer c__law_is_integer k__law_is_integer
  have b__law_is_integer := F__law_is_integer.binds (ps := ["told"]) fun _ _ _ _ _ _ us hl => match us, hl with | [_], _ => rfl
  have F__law_same := fun_mk (st := s__law_same) l__law_same c__law_same k__law_same
  have b__law_same := F__law_same.binds (ps := ["told", "due"]) fun _ _ _ _ _ _ us hl => match us, hl with | [_, _], _ => rfl
  have F__law_mix := fun_mk (st := s__law_mix) l__law_mix c__law_mix k__law_mix
  have b__law_mix := F__law_mix.binds (ps := ["box"]) fun _ _ _ _ _ _ us hl => match us, hl with | [_], _ => rfl
  have F__law_digest := fun_mk (st := s__law_digest) l__law_digest c__law_digest k__law_digest
  have b__law_digest := F__law_digest.binds (ps := ["mix", "row"]) fun _ _ _ _ _ _ us hl => match us, hl with | [_, _], _ => rfl
  have F__law_half := fun_mk (st := s__law_half) l__law_half c__law_half k__law_half
  have b__law_half := F__law_half.binds (ps := ["count"]) fun _ _ _ _ _ _ us hl => match us, hl with | [_], _ => rfl
  have F__law_root := fun_mk (st := s__law_root) l__law_root c__law_root k__law_root
  have b__law_root := F__law_root.binds (ps := ["mix", "entries"]) fun _ _ _ _ _ _ us hl => match us, hl with | [_, _], _ => rfl
  have F__law_way := fun_mk (st := s__law_way) l__law_way c__law_way k__law_way
  have b__law_way := F__law_way.binds (ps := ["mix", "entries", "index"]) fun _ _ _ _ _ _ us hl => match us, hl with | [_, _, _], _ => rfl
  have F__law_backs := fun_mk (st := s__law_backs) l__law_backs c__law_backs k__law_backs
  have b__law_backs := F__law_backs.binds (ps := ["number"]) fun _ _ _ _ _ _ us hl => match us, hl with | [_], _ => rfl
  have F__law_pool := fun_mk (st := s__law_pool) l__law_pool c__law_pool k__law_pool
  have b__law_pool := F__law_pool.binds (ps := ["box", "mix", "things"]) fun _ _ _ _ _ _ us hl => match us, hl with | [_, _, _], _ => rfl
  have F__law_pick := fun_mk (st := s__law_pick) l__law_pick c__law_pick k__law_pick
  have b__law_pick := F__law_pick.binds (ps := ["box", "numbers"]) fun _ _ _ _ _ _ us hl => match us, hl with | [_, _], _ => rfl
  have F__law_head := fun_mk (st := s__law_head) l__law_head c__law_head k__law_head
  have b__law_head := F__law_head.binds (ps := ["box", "mix", "things", "numbers"]) fun _ _ _ _ _ _ us hl => match us, hl with | [_, _, _, _], _ => rfl
  have F__law_thing := fun_mk (st := s__law_thing) l__law_thing c__law_thing k__law_thing
  have b__law_thing := F__law_thing.binds (ps := ["box", "mix", "things"]) fun _ _ _ _ _ _ us hl => match us, hl with | [_, _, _], _ => rfl
  have F__law_things := fun_mk (st := s__law_things) l__law_things c__law_things k__law_things
  have b__law_things := F__law_things.binds (ps := ["box", "mix", "many"]) fun _ _ _ _ _ _ us hl => match us, hl with | [_, _, _], _ => rfl
  have F__law_places := fun_mk (st := s__law_places) l__law_places c__law_places k__law_places
  have b__law_places := F__law_places.binds (ps := ["mix", "thing", "before"]) fun _ _ _ _ _ _ us hl => match us, hl with | [_, _, _], _ => rfl
  have F__law_known := fun_mk (st := s__law_known) l__law_known c__law_known k__law_known
  have b__law_known := F__law_known.binds (ps := ["mix", "things"]) fun _ _ _ _ _ _ us hl => match us, hl with | [_, _], _ => rfl
  have F__law_filled := fun_mk (st := s__law_filled) l__law_filled c__law_filled k__law_filled
  have b__law_filled := F__law_filled.binds (ps := ["mix", "known"]) fun _ _ _ _ _ _ us hl => match us, hl with | [_, _], _ => rfl
  have F__law_edges := fun_mk (st := s__law_edges) l__law_edges c__law_edges k__law_edges
  have b__law_edges := F__law_edges.binds (ps := ["mix", "known"]) fun _ _ _ _ _ _ us hl => match us, hl with | [_, _], _ => rfl
  have F__law_steps_to := fun_mk (st := s__law_steps_to) l__law_steps_to c__law_steps_to k__law_steps_to
  have b__law_steps_to := F__law_steps_to.binds (ps := ["edges", "end"]) fun _ _ _ _ _ _ us hl => match us, hl with | [_, _], _ => rfl
  have F__law_due_path := fun_mk (st := s__law_due_path) l__law_due_path c__law_due_path k__law_due_path
  have b__law_due_path := F__law_due_path.binds (ps := ["mix", "known", "edges", "start", "end"]) fun _ _ _ _ _ _ us hl => match us, hl with | [_, _, _, _, _], _ => rfl
  have F_law := fun_mk (st := s_law) l_law c_law k_law
  have F_Mixing___init__ := fun_mk (st := s_Mixing___init__) l_Mixing___init__ c_Mixing___init__ k_Mixing___init__
  have b_Mixing___init__ := F_Mixing___init__.binds (ps := ["self", "bound", "factor"]) fun _ _ _ _ _ _ us hl => match us, hl with | [_, _, _], _ => rfl
  have F_Paper___init__ := fun_mk (st := s_Paper___init__) l_Paper___init__ c_Paper___init__ k_Paper___init__
  have b_Paper___init__ := F_Paper___init__.binds (ps := ["self", "first", "steps"]) fun _ _ _ _ _ _ us hl => match us, hl with | [_, _, _], _ => rfl
  have F_Library___init__ := fun_mk (st := s_Library___init__) l_Library___init__ c_Library___init__ k_Library___init__
  have b_Library___init__ := F_Library___init__.binds (ps := ["self", "mixing"]) fun _ _ _ _ _ _ us hl => match us, hl with | [_, _], _ => rfl
  have F_Library_put := fun_mk (st := s_Library_put) l_Library_put c_Library_put k_Library_put
  have b_Library_put := F_Library_put.binds (ps := ["self", "row", "entries"]) fun _ _ _ _ _ _ us hl => match us, hl with | [_, _, _], _ => rfl
  have F_Library_path := fun_mk (st := s_Library_path) l_Library_path c_Library_path k_Library_path
  have b_Library_path := F_Library_path.binds (ps := ["self", "start", "end"]) fun _ _ _ _ _ _ us hl => match us, hl with | [_, _, _], _ => rfl
  have F_Library__following := fun_mk (st := s_Library__following) l_Library__following c_Library__following k_Library__following
  have b_Library__following := F_Library__following.binds (ps := ["self", "start", "end"]) fun _ _ _ _ _ _ us hl => match us, hl with | [_, _, _], _ => rfl
  have F_Library__row_with := fun_mk (st := s_Library__row_with) l_Library__row_with c_Library__row_with k_Library__row_with
  have b_Library__row_with := F_Library__row_with.binds (ps := ["self", "mark"]) fun _ _ _ _ _ _ us hl => match us, hl with | [_, _], _ => rfl
  have F_Library__first_place := fun_mk (st := s_Library__first_place) l_Library__first_place c_Library__first_place k_Library__first_place
  have b_Library__first_place := F_Library__first_place.binds (ps := ["self", "mark", "later"]) fun _ _ _ _ _ _ us hl => match us, hl with | [_, _, _], _ => rfl
  have F_Library__whole_place := fun_mk (st := s_Library__whole_place) l_Library__whole_place c_Library__whole_place k_Library__whole_place
  have b_Library__whole_place := F_Library__whole_place.binds (ps := ["self", "mark", "place"]) fun _ _ _ _ _ _ us hl => match us, hl with | [_, _, _], _ => rfl
  have F_Library__links_to := fun_mk (st := s_Library__links_to) l_Library__links_to c_Library__links_to k_Library__links_to
  have b_Library__links_to := F_Library__links_to.binds (ps := ["self", "mark"]) fun _ _ _ _ _ _ us hl => match us, hl with | [_, _], _ => rfl
  have F_Library__held_by := fun_mk (st := s_Library__held_by) l_Library__held_by c_Library__held_by k_Library__held_by
  have b_Library__held_by := F_Library__held_by.binds (ps := ["self", "mark"]) fun _ _ _ _ _ _ us hl => match us, hl with | [_, _], _ => rfl
  have F_ThingError___init__ := fun_mk (st := s_ThingError___init__) l_ThingError___init__ c_ThingError___init__ k_ThingError___init__
  have b_ThingError___init__ := F_ThingError___init__.binds (ps := ["self", "reason"]) fun _ _ _ _ _ _ us hl => match us, hl with | [_, _], _ => rfl
  refine ⟨PySem.W.fnOf "law" "law" (defArgs s_law) (defBody s_law) (defScope s_law) .none kV_law dc_law pm_law an_law cd_law ct_law, fun s v => .of_eq rfl, fun base _ _ => ?_⟩
  have T : Txt l.prog w K mg base := { b_abs := PySem.W.mg_none_of X G z_abs, b_bool := PySem.W.mg_none_of X G z_bool, b_enumerate := PySem.W.mg_none_of X G z_enumerate, b_int := PySem.W.mg_none_of X G z_int, b_isinstance := PySem.W.mg_none_of X G z_isinstance, b_len := PySem.W.mg_none_of X G z_len, b_list := PySem.W.mg_none_of X G z_list, b_min := PySem.W.mg_none_of X G z_min, b_range := PySem.W.mg_none_of X G z_range, b_sorted := PySem.W.mg_none_of X G z_sorted, b_str := PySem.W.mg_none_of X G z_str, b_tuple := PySem.W.mg_none_of X G z_tuple, b_zip := PySem.W.mg_none_of X G z_zip, c_PRIME := ⟨t_PRIME, PySem.W.mg_of X G v_PRIME⟩, c_BEACON := ⟨t_BEACON, PySem.W.mg_of X G v_BEACON⟩, c_DOCUMENT := ⟨t_DOCUMENT, PySem.W.mg_of X G v_DOCUMENT⟩, c_HEAD := ⟨t_HEAD, PySem.W.mg_of X G v_HEAD⟩, c_RENEWAL := ⟨t_RENEWAL, PySem.W.mg_of X G v_RENEWAL⟩, c_NODE := ⟨t_NODE, PySem.W.mg_of X G v_NODE⟩, c_CITE := ⟨t_CITE, PySem.W.mg_of X G v_CITE⟩, c_BACK := ⟨t_BACK, PySem.W.mg_of X G v_BACK⟩, c_ENTRY := ⟨t_ENTRY, PySem.W.mg_of X G v_ENTRY⟩, E_SealError := E_SealError, mg_SealError := PySem.W.mg_of X G aE_SealError, eb_SealError := ⟨eX_SealError, eH_SealError, eT_SealError⟩, E_ThingError := E_ThingError, mg_ThingError := PySem.W.mg_of X G aE_ThingError, eb_ThingError := ⟨eX_ThingError, eH_ThingError, eT_ThingError⟩, nf_ThingError_reason := eN_ThingError_reason, ec_ThingError := ⟨⟨⟨nm_ThingError, q_ThingError, N_ThingError, bs_ThingError, _, sn_ThingError, sub_ThingError, ab_ThingError, col_ThingError, dd_ThingError, m0_ThingError, m1_ThingError, m2_ThingError, m3_ThingError, m5_ThingError, eL_ThingError, rfl⟩, eS_ThingError, eX_ThingError, eT_ThingError, eK_ThingError⟩, ⟨eG_ThingError, eA_ThingError, eX_ThingError, eH_ThingError⟩, (by obtain ⟨cd, hc, _⟩ := PySem.W.any_some eH_ThingError; rw [hc]; rfl), eC_ThingError, eget, etk, eM_ThingError⟩, i_ThingError := ⟨_, _, a_ThingError___init__, i_ThingError___init__, F_ThingError___init__, b_ThingError___init__⟩, up_ThingError_ThingError := eU_ThingError_ThingError, up_ThingError_SealError := eU_ThingError_SealError, d_digest := ⟨_, _, F_digest, PySem.W.mg_of X G a_digest, b_digest⟩, d__mixed := ⟨_, _, F__mixed, PySem.W.mg_of X G a__mixed, b__mixed⟩, d_digest_of := ⟨_, _, F_digest_of, PySem.W.mg_of X G a_digest_of, b_digest_of⟩, d_is_thing := ⟨_, _, F_is_thing, PySem.W.mg_of X G a_is_thing, b_is_thing⟩, d__is_document := ⟨_, _, F__is_document, PySem.W.mg_of X G a__is_document, b__is_document⟩, d__is_head := ⟨_, _, F__is_head, PySem.W.mg_of X G a__is_head, b__is_head⟩, d_kind_of := ⟨_, _, F_kind_of, PySem.W.mg_of X G a_kind_of, b_kind_of⟩, d__back_count := ⟨_, _, F__back_count, PySem.W.mg_of X G a__back_count, b__back_count⟩, d__greatest_step := ⟨_, _, F__greatest_step, PySem.W.mg_of X G a__greatest_step, b__greatest_step⟩, d__first_count := ⟨_, _, F__first_count, PySem.W.mg_of X G a__first_count, b__first_count⟩, d_root_of := ⟨_, _, F_root_of, PySem.W.mg_of X G a_root_of, b_root_of⟩, d__root_and_nodes := ⟨_, _, F__root_and_nodes, PySem.W.mg_of X G a__root_and_nodes, b__root_and_nodes⟩, d_way_of := ⟨_, _, F_way_of, PySem.W.mg_of X G a_way_of, b_way_of⟩, d_turns := ⟨_, _, F_turns, PySem.W.mg_of X G a_turns, b_turns⟩, d_clash_of_entries := ⟨_, _, F_clash_of_entries, PySem.W.mg_of X G a_clash_of_entries, b_clash_of_entries⟩, d__first_difference := ⟨_, _, F__first_difference, PySem.W.mg_of X G a__first_difference, b__first_difference⟩, d_listed := ⟨_, _, F_listed, PySem.W.mg_of X G a_listed, b_listed⟩, d_is_right_round := ⟨_, _, F_is_right_round, PySem.W.mg_of X G a_is_right_round, b_is_right_round⟩, d__are_entries := ⟨_, _, F__are_entries, PySem.W.mg_of X G a__are_entries, b__are_entries⟩, d__law_cell := ⟨_, _, F__law_cell, PySem.W.mg_of X G a__law_cell, b__law_cell⟩, d__law_row := ⟨_, _, F__law_row, PySem.W.mg_of X G a__law_row, b__law_row⟩, d__law_draw := ⟨_, _, F__law_draw, PySem.W.mg_of X G a__law_draw, b__law_draw⟩, d__law_is_integer := ⟨_, _, F__law_is_integer, PySem.W.mg_of X G a__law_is_integer, b__law_is_integer⟩, d__law_same := ⟨_, _, F__law_same, PySem.W.mg_of X G a__law_same, b__law_same⟩, d__law_mix := ⟨_, _, F__law_mix, PySem.W.mg_of X G a__law_mix, b__law_mix⟩, d__law_digest := ⟨_, _, F__law_digest, PySem.W.mg_of X G a__law_digest, b__law_digest⟩, d__law_half := ⟨_, _, F__law_half, PySem.W.mg_of X G a__law_half, b__law_half⟩, d__law_root := ⟨_, _, F__law_root, PySem.W.mg_of X G a__law_root, b__law_root⟩, d__law_way := ⟨_, _, F__law_way, PySem.W.mg_of X G a__law_way, b__law_way⟩, d__law_backs := ⟨_, _, F__law_backs, PySem.W.mg_of X G a__law_backs, b__law_backs⟩, d__law_pool := ⟨_, _, F__law_pool, PySem.W.mg_of X G a__law_pool, b__law_pool⟩, d__law_pick := ⟨_, _, F__law_pick, PySem.W.mg_of X G a__law_pick, b__law_pick⟩, d__law_head := ⟨_, _, F__law_head, PySem.W.mg_of X G a__law_head, b__law_head⟩, d__law_thing := ⟨_, _, F__law_thing, PySem.W.mg_of X G a__law_thing, b__law_thing⟩, d__law_things := ⟨_, _, F__law_things, PySem.W.mg_of X G a__law_things, b__law_things⟩, d__law_places := ⟨_, _, F__law_places, PySem.W.mg_of X G a__law_places, b__law_places⟩, d__law_known := ⟨_, _, F__law_known, PySem.W.mg_of X G a__law_known, b__law_known⟩, d__law_filled := ⟨_, _, F__law_filled, PySem.W.mg_of X G a__law_filled, b__law_filled⟩, d__law_edges := ⟨_, _, F__law_edges, PySem.W.mg_of X G a__law_edges, b__law_edges⟩, d__law_steps_to := ⟨_, _, F__law_steps_to, PySem.W.mg_of X G a__law_steps_to, b__law_steps_to⟩, d__law_due_path := ⟨_, _, F__law_due_path, PySem.W.mg_of X G a__law_due_path, b__law_due_path⟩, C_Mixing := C_Mixing, cl_Mixing := ⟨pg_Mixing, hd_Mixing, po_Mixing, sa_Mixing⟩, mg_Mixing := PySem.W.mg_of X G aC_Mixing, na_Mixing_bound := n_Mixing_bound, na_Mixing_factor := n_Mixing_factor, mk_Mixing := ⟨_, _, ⟨mk_Mixing, a_Mixing___init__, i_Mixing___init__, kc_Mixing⟩, F_Mixing___init__, b_Mixing___init__⟩, C_Paper := C_Paper, cl_Paper := ⟨pg_Paper, hd_Paper, po_Paper, sa_Paper⟩, mg_Paper := PySem.W.mg_of X G aC_Paper, is_Paper := ⟨⟨pg_Paper, hd_Paper, po_Paper, sa_Paper⟩, ia_Paper, eget, etk, im_Paper, by simp [PySem.W.kitOne]⟩, na_Paper_first := n_Paper_first, na_Paper_steps := n_Paper_steps, mk_Paper := ⟨_, _, ⟨mk_Paper, a_Paper___init__, i_Paper___init__, kc_Paper⟩, F_Paper___init__, b_Paper___init__⟩, C_Library := C_Library, cl_Library := ⟨pg_Library, hd_Library, po_Library, sa_Library⟩, mg_Library := PySem.W.mg_of X G aC_Library, na_Library__entries := n_Library__entries, na_Library__rows := n_Library__rows, na_Library_mixing := n_Library_mixing, mk_Library := ⟨_, _, ⟨mk_Library, a_Library___init__, i_Library___init__, kc_Library⟩, F_Library___init__, b_Library___init__⟩, m_Library_put := ⟨_, _, ⟨a_Library_put, i_Library_put, k_Library_put⟩, F_Library_put, b_Library_put⟩, m_Library_path := ⟨_, _, ⟨a_Library_path, i_Library_path, k_Library_path⟩, F_Library_path, b_Library_path⟩, m_Library__following := ⟨_, _, ⟨a_Library__following, i_Library__following, k_Library__following⟩, F_Library__following, b_Library__following⟩, m_Library__row_with := ⟨_, _, ⟨a_Library__row_with, i_Library__row_with, k_Library__row_with⟩, F_Library__row_with, b_Library__row_with⟩, bm_Library__row_with := fun g M => by have e := M.at_; rw [a_Library__row_with] at e; obtain rfl := Value.ref.inj (Option.some.inj (Option.some.inj e)); exact ⟨M, bg_Library__row_with, bt_Library__row_with, by decide, bf_Library__row_with⟩, m_Library__first_place := ⟨_, _, ⟨a_Library__first_place, i_Library__first_place, k_Library__first_place⟩, F_Library__first_place, b_Library__first_place⟩, m_Library__whole_place := ⟨_, _, ⟨a_Library__whole_place, i_Library__whole_place, k_Library__whole_place⟩, F_Library__whole_place, b_Library__whole_place⟩, m_Library__links_to := ⟨_, _, ⟨a_Library__links_to, i_Library__links_to, k_Library__links_to⟩, F_Library__links_to, b_Library__links_to⟩, m_Library__held_by := ⟨_, _, ⟨a_Library__held_by, i_Library__held_by, k_Library__held_by⟩, F_Library__held_by, b_Library__held_by⟩ }
  exact fn_law T F_law
theorem walk {l : PySem.W.OpenLaw} {q : Program} {loose : List Str} {XP : (Str → Option Value) → Heap → Prop} {YP : World → Heap → Prop} {d : DefRec} {K : Params → PySem.W.Frag} (hn : l.most = some 63) (hdf : d.params.defaults = []) (hY : ∀ (w : World) (h : Heap), YP w h → (K w.params).In h)
    (F : ∀ (w : World) (mg : Str → Option Value) (fa : Addr) (h : Heap), (K w.params).In h → h.Ns mainGlobals mg → mg d.name = some (.ref fa) →
      ∃ fd : FuncData, (∀ (s : Shared) (u : Value), BindsTo s fd ⟨[u], []⟩ [("script", u)]) ∧ ∀ base : Heap, (K w.params).In base → base.Ns mainGlobals mg → FnOk l.prog w (K w.params) mg base CX0 24 fa fd ["script"] (sp_law (K w.params))) :
    PySem.W.WalkO q loose XP YP l.row.toRowW d [] (fun f vs => PySem.call f vs) :=
  L2.walk_of (n := 63) (k := 24) (x := "script") (CX := fun _ => CX0) (sp := fun w => sp_law (K w.params)) hn (by decide) hdf ⟨rfl, by decide, by decide⟩ hY F (fun _ _ a ns hl _ hS => ⟨a, ns, rfl, hS, hl, fun _ => rfl⟩) fun _ _ _ _ _ z => z
end Law
open PySem PySem.W PyProof.Rows in
set_option maxRecDepth 100000 in
set_option maxHeartbeats 0 in
theorem PySem.Challenge.cw_sealround_k30_paths_holds : PySem.Challenge.rw_sealround_k30_paths.Holds := by
  w_on; o_law; k_head; (case hw => w_witness2)
  k_fill
  refine Law.walk (l := PySem.Challenge.rw_sealround_k30_paths) rfl rfl (fun w h Y => PySem.W.kIn_of Y) ?F
  case F =>
    intro w mg fa h KX G hmg
    refine' Law.all_mk KX G hmg ?aE_SealError ?aE_ThingError ?eX_SealError ?eH_SealError ?eT_SealError ?eX_ThingError ?eH_ThingError ?eT_ThingError ?eN_ThingError_reason ?eL_ThingError ?eS_ThingError ?eK_ThingError ?eG_ThingError ?eA_ThingError ?eC_ThingError ?eM_ThingError ?eU_ThingError_ThingError ?eU_ThingError_SealError ?eget ?etk ?aC_Mixing ?aC_Paper ?aC_Library ?a_digest ?l_digest ?c_digest ?k_digest ?a__mixed ?l__mixed ?c__mixed ?k__mixed ?a_digest_of ?l_digest_of ?c_digest_of ?k_digest_of ?a_is_thing ?l_is_thing ?c_is_thing ?k_is_thing ?a__is_document ?l__is_document ?c__is_document ?k__is_document ?a__is_head ?l__is_head ?c__is_head ?k__is_head ?a_kind_of ?l_kind_of ?c_kind_of ?k_kind_of ?a__back_count ?l__back_count ?c__back_count ?k__back_count ?a__greatest_step ?l__greatest_step ?c__greatest_step ?k__greatest_step ?a__first_count ?l__first_count ?c__first_count ?k__first_count ?a_root_of ?l_root_of ?c_root_of ?k_root_of ?a__root_and_nodes ?l__root_and_nodes ?c__root_and_nodes ?k__root_and_nodes ?a_way_of ?l_way_of ?c_way_of ?k_way_of ?a_turns ?l_turns ?c_turns ?k_turns ?a_clash_of_entries ?l_clash_of_entries ?c_clash_of_entries ?k_clash_of_entries ?a__first_difference ?l__first_difference ?c__first_difference ?k__first_difference ?a_listed ?l_listed ?c_listed ?k_listed ?a_is_right_round ?l_is_right_round ?c_is_right_round ?k_is_right_round ?a__are_entries ?l__are_entries ?c__are_entries ?k__are_entries ?a__law_cell ?l__law_cell ?c__law_cell ?k__law_cell ?a__law_row ?l__law_row ?c__law_row ?k__law_row ?a__law_draw ?l__law_draw ?c__law_draw ?k__law_draw ?a__law_is_integer ?l__law_is_integer ?c__law_is_integer ?k__law_is_integer ?a__law_same ?l__law_same ?c__law_same ?k__law_same ?a__law_mix ?l__law_mix ?c__law_mix ?k__law_mix ?a__law_digest ?l__law_digest ?c__law_digest ?k__law_digest ?a__law_half ?l__law_half ?c__law_half ?k__law_half ?a__law_root ?l__law_root ?c__law_root ?k__law_root ?a__law_way ?l__law_way ?c__law_way ?k__law_way ?a__law_backs ?l__law_backs ?c__law_backs ?k__law_backs ?a__law_pool ?l__law_pool ?c__law_pool ?k__law_pool ?a__law_pick ?l__law_pick ?c__law_pick ?k__law_pick ?a__law_head ?l__law_head ?c__law_head ?k__law_head ?a__law_thing ?l__law_thing ?c__law_thing ?k__law_thing ?a__law_things ?l__law_things ?c__law_things ?k__law_things ?a__law_places ?l__law_places ?c__law_places ?k__law_places ?a__law_known ?l__law_known ?c__law_known ?k__law_known ?a__law_filled ?l__law_filled ?c__law_filled ?k__law_filled ?a__law_edges ?l__law_edges ?c__law_edges ?k__law_edges ?a__law_steps_to ?l__law_steps_to ?c__law_steps_to ?k__law_steps_to ?a__law_due_path ?l__law_due_path ?c__law_due_path ?k__law_due_path ?a_law ?l_law ?c_law ?k_law ?a_Mixing___init__ ?i_Mixing___init__ ?l_Mixing___init__ ?c_Mixing___init__ ?k_Mixing___init__ ?a_Paper___init__ ?i_Paper___init__ ?l_Paper___init__ ?c_Paper___init__ ?k_Paper___init__ ?a_Library___init__ ?i_Library___init__ ?l_Library___init__ ?c_Library___init__ ?k_Library___init__ ?a_Library_put ?i_Library_put ?l_Library_put ?c_Library_put ?k_Library_put ?a_Library_path ?i_Library_path ?l_Library_path ?c_Library_path ?k_Library_path ?a_Library__following ?i_Library__following ?l_Library__following ?c_Library__following ?k_Library__following ?a_Library__row_with ?i_Library__row_with ?bg_Library__row_with ?bt_Library__row_with ?bf_Library__row_with ?l_Library__row_with ?c_Library__row_with ?k_Library__row_with ?a_Library__first_place ?i_Library__first_place ?l_Library__first_place ?c_Library__first_place ?k_Library__first_place ?a_Library__whole_place ?i_Library__whole_place ?l_Library__whole_place ?c_Library__whole_place ?k_Library__whole_place ?a_Library__links_to ?i_Library__links_to ?l_Library__links_to ?c_Library__links_to ?k_Library__links_to ?a_Library__held_by ?i_Library__held_by ?l_Library__held_by ?c_Library__held_by ?k_Library__held_by ?a_ThingError___init__ ?i_ThingError___init__ ?l_ThingError___init__ ?c_ThingError___init__ ?k_ThingError___init__ ?pg_Mixing ?hd_Mixing ?po_Mixing ?sa_Mixing ?mk_Mixing ?kc_Mixing ?n_Mixing_bound ?n_Mixing_factor ?pg_Paper ?hd_Paper ?po_Paper ?sa_Paper ?mk_Paper ?kc_Paper ?ia_Paper ?im_Paper ?n_Paper_first ?n_Paper_steps ?pg_Library ?hd_Library ?po_Library ?sa_Library ?mk_Library ?kc_Library ?n_Library__entries ?n_Library__rows ?n_Library_mixing ?z_abs ?z_bool ?z_enumerate ?z_int ?z_isinstance ?z_len ?z_list ?z_min ?z_range ?z_sorted ?z_str ?z_tuple ?z_zip ?v_PRIME ?v_BEACON ?v_DOCUMENT ?v_HEAD ?v_RENEWAL ?v_NODE ?v_CITE ?v_BACK ?v_ENTRY
    (case aE_SealError => k_is)
    (case aE_ThingError => k_is)
    (case eX_SealError => k_is)
    (case eH_SealError => k_is)
    (case eT_SealError => k_is)
    (case eX_ThingError => k_is)
    (case eH_ThingError => k_is)
    (case eT_ThingError => k_is)
    (case eN_ThingError_reason => k_is)
    (case eL_ThingError => k_is)
    (case eS_ThingError => k_is)
    (case eK_ThingError => k_is)
    (case eG_ThingError => k_is)
    (case eA_ThingError => k_is)
    (case eC_ThingError => k_is)
    (case eM_ThingError => k_is)
    (case eU_ThingError_ThingError => first | rfl | k_is)
    (case eU_ThingError_SealError => first | rfl | k_is)
    (case eget => k_is)
    (case etk => k_is)
    (case aC_Mixing => k_is)
    (case aC_Paper => k_is)
    (case aC_Library => k_is)
    (case a_digest => k_is)
    (case l_digest => k_is)
    (case c_digest => k_is)
    (case k_digest => k_is)
    (case a__mixed => k_is)
    (case l__mixed => k_is)
    (case c__mixed => k_is)
    (case k__mixed => k_is)
    (case a_digest_of => k_is)
    (case l_digest_of => k_is)
    (case c_digest_of => k_is)
    (case k_digest_of => k_is)
    (case a_is_thing => k_is)
    (case l_is_thing => k_is)
    (case c_is_thing => k_is)
    (case k_is_thing => k_is)
    (case a__is_document => k_is)
    (case l__is_document => k_is)
    (case c__is_document => k_is)
    (case k__is_document => k_is)
    (case a__is_head => k_is)
    (case l__is_head => k_is)
    (case c__is_head => k_is)
    (case k__is_head => k_is)
    (case a_kind_of => k_is)
    (case l_kind_of => k_is)
    (case c_kind_of => k_is)
    (case k_kind_of => k_is)
    (case a__back_count => k_is)
    (case l__back_count => k_is)
    (case c__back_count => k_is)
    (case k__back_count => k_is)
    (case a__greatest_step => k_is)
    (case l__greatest_step => k_is)
    (case c__greatest_step => k_is)
    (case k__greatest_step => k_is)
    (case a__first_count => k_is)
    (case l__first_count => k_is)
    (case c__first_count => k_is)
    (case k__first_count => k_is)
    (case a_root_of => k_is)
    (case l_root_of => k_is)
    (case c_root_of => k_is)
    (case k_root_of => k_is)
    (case a__root_and_nodes => k_is)
    (case l__root_and_nodes => k_is)
    (case c__root_and_nodes => k_is)
    (case k__root_and_nodes => k_is)
    (case a_way_of => k_is)
    (case l_way_of => k_is)
    (case c_way_of => k_is)
    (case k_way_of => k_is)
    (case a_turns => k_is)
    (case l_turns => k_is)
    (case c_turns => k_is)
    (case k_turns => k_is)
    (case a_clash_of_entries => k_is)
    (case l_clash_of_entries => k_is)
    (case c_clash_of_entries => k_is)
    (case k_clash_of_entries => k_is)
    (case a__first_difference => k_is)
    (case l__first_difference => k_is)
    (case c__first_difference => k_is)
    (case k__first_difference => k_is)
    (case a_listed => k_is)
    (case l_listed => k_is)
    (case c_listed => k_is)
    (case k_listed => k_is)
    (case a_is_right_round => k_is)
    (case l_is_right_round => k_is)
    (case c_is_right_round => k_is)
    (case k_is_right_round => k_is)
    (case a__are_entries => k_is)
    (case l__are_entries => k_is)
    (case c__are_entries => k_is)
    (case k__are_entries => k_is)
    (case a__law_cell => k_is)
    (case l__law_cell => k_is)
    (case c__law_cell => k_is)
    (case k__law_cell => k_is)
    (case a__law_row => k_is)
    (case l__law_row => k_is)
    (case c__law_row => k_is)
    (case k__law_row => k_is)
    (case a__law_draw => k_is)
    (case l__law_draw => k_is)
    (case c__law_draw => k_is)
    (case k__law_draw => k_is)
    (case a__law_is_integer => k_is)
    (case l__law_is_integer => k_is)
    (case c__law_is_integer => k_is)
    (case k__law_is_integer => k_is)
    (case a__law_same => k_is)
    (case l__law_same => k_is)
    (case c__law_same => k_is)
    (case k__law_same => k_is)
    (case a__law_mix => k_is)
    (case l__law_mix => k_is)
    (case c__law_mix => k_is)
    (case k__law_mix => k_is)
    (case a__law_digest => k_is)
    (case l__law_digest => k_is)
    (case c__law_digest => k_is)
    (case k__law_digest => k_is)
    (case a__law_half => k_is)
    (case l__law_half => k_is)
    (case c__law_half => k_is)
    (case k__law_half => k_is)
    (case a__law_root => k_is)
    (case l__law_root => k_is)
    (case c__law_root => k_is)
    (case k__law_root => k_is)
    (case a__law_way => k_is)
    (case l__law_way => k_is)
    (case c__law_way => k_is)
    (case k__law_way => k_is)
    (case a__law_backs => k_is)
    (case l__law_backs => k_is)
    (case c__law_backs => k_is)
    (case k__law_backs => k_is)
    (case a__law_pool => k_is)
    (case l__law_pool => k_is)
    (case c__law_pool => k_is)
    (case k__law_pool => k_is)
    (case a__law_pick => k_is)
    (case l__law_pick => k_is)
    (case c__law_pick => k_is)
    (case k__law_pick => k_is)
    (case a__law_head => k_is)
    (case l__law_head => k_is)
    (case c__law_head => k_is)
    (case k__law_head => k_is)
    (case a__law_thing => k_is)
    (case l__law_thing => k_is)
    (case c__law_thing => k_is)
    (case k__law_thing => k_is)
    (case a__law_things => k_is)
    (case l__law_things => k_is)
    (case c__law_things => k_is)
    (case k__law_things => k_is)
    (case a__law_places => k_is)
    (case l__law_places => k_is)
    (case c__law_places => k_is)
    (case k__law_places => k_is)
    (case a__law_known => k_is)
    (case l__law_known => k_is)
    (case c__law_known => k_is)
    (case k__law_known => k_is)
    (case a__law_filled => k_is)
    (case l__law_filled => k_is)
    (case c__law_filled => k_is)
    (case k__law_filled => k_is)
    (case a__law_edges => k_is)
    (case l__law_edges => k_is)
    (case c__law_edges => k_is)
    (case k__law_edges => k_is)
    (case a__law_steps_to => k_is)
    (case l__law_steps_to => k_is)
    (case c__law_steps_to => k_is)
    (case k__law_steps_to => k_is)
    (case a__law_due_path => k_is)
    (case l__law_due_path => k_is)
    (case c__law_due_path => k_is)
    (case k__law_due_path => k_is)
    (case a_law => k_is)
    (case l_law => k_is)
    (case c_law => k_is)
    (case k_law => k_is)
    (case a_Mixing___init__ => k_is)
    (case i_Mixing___init__ => k_is)
    (case l_Mixing___init__ => k_is)
    (case c_Mixing___init__ => k_is)
    (case k_Mixing___init__ => k_is)
    (case a_Paper___init__ => k_is)
    (case i_Paper___init__ => k_is)
    (case l_Paper___init__ => k_is)
    (case c_Paper___init__ => k_is)
    (case k_Paper___init__ => k_is)
    (case a_Library___init__ => k_is)
    (case i_Library___init__ => k_is)
    (case l_Library___init__ => k_is)
    (case c_Library___init__ => k_is)
    (case k_Library___init__ => k_is)
    (case a_Library_put => k_is)
    (case i_Library_put => k_is)
    (case l_Library_put => k_is)
    (case c_Library_put => k_is)
    (case k_Library_put => k_is)
    (case a_Library_path => k_is)
    (case i_Library_path => k_is)
    (case l_Library_path => k_is)
    (case c_Library_path => k_is)
    (case k_Library_path => k_is)
    (case a_Library__following => k_is)
    (case i_Library__following => k_is)
    (case l_Library__following => k_is)
    (case c_Library__following => k_is)
    (case k_Library__following => k_is)
    (case a_Library__row_with => k_is)
    (case i_Library__row_with => k_is)
    (case bg_Library__row_with => k_is)
    (case bt_Library__row_with => k_is)
    (case bf_Library__row_with => k_is)
    (case l_Library__row_with => k_is)
    (case c_Library__row_with => k_is)
    (case k_Library__row_with => k_is)
    (case a_Library__first_place => k_is)
    (case i_Library__first_place => k_is)
    (case l_Library__first_place => k_is)
    (case c_Library__first_place => k_is)
    (case k_Library__first_place => k_is)
    (case a_Library__whole_place => k_is)
    (case i_Library__whole_place => k_is)
    (case l_Library__whole_place => k_is)
    (case c_Library__whole_place => k_is)
    (case k_Library__whole_place => k_is)
    (case a_Library__links_to => k_is)
    (case i_Library__links_to => k_is)
    (case l_Library__links_to => k_is)
    (case c_Library__links_to => k_is)
    (case k_Library__links_to => k_is)
    (case a_Library__held_by => k_is)
    (case i_Library__held_by => k_is)
    (case l_Library__held_by => k_is)
    (case c_Library__held_by => k_is)
    (case k_Library__held_by => k_is)
    (case a_ThingError___init__ => k_is)
    (case i_ThingError___init__ => k_is)
    (case l_ThingError___init__ => k_is)
    (case c_ThingError___init__ => k_is)
    (case k_ThingError___init__ => k_is)
    (case pg_Mixing => k_is)
    (case hd_Mixing => k_is)
    (case po_Mixing => k_is)
    (case sa_Mixing => k_is)
    (case mk_Mixing => k_is)
    (case kc_Mixing => k_is)
    (case n_Mixing_bound => k_is)
    (case n_Mixing_factor => k_is)
    (case pg_Paper => k_is)
    (case hd_Paper => k_is)
    (case po_Paper => k_is)
    (case sa_Paper => k_is)
    (case mk_Paper => k_is)
    (case kc_Paper => k_is)
    (case ia_Paper => k_is)
    (case im_Paper => k_is)
    (case n_Paper_first => k_is)
    (case n_Paper_steps => k_is)
    (case pg_Library => k_is)
    (case hd_Library => k_is)
    (case po_Library => k_is)
    (case sa_Library => k_is)
    (case mk_Library => k_is)
    (case kc_Library => k_is)
    (case n_Library__entries => k_is)
    (case n_Library__rows => k_is)
    (case n_Library_mixing => k_is)
    (case z_abs => k_is)
    (case z_bool => k_is)
    (case z_enumerate => k_is)
    (case z_int => k_is)
    (case z_isinstance => k_is)
    (case z_len => k_is)
    (case z_list => k_is)
    (case z_min => k_is)
    (case z_range => k_is)
    (case z_sorted => k_is)
    (case z_str => k_is)
    (case z_tuple => k_is)
    (case z_zip => k_is)
    (case v_PRIME => k_is)
    (case v_BEACON => k_is)
    (case v_DOCUMENT => k_is)
    (case v_HEAD => k_is)
    (case v_RENEWAL => k_is)
    (case v_NODE => k_is)
    (case v_CITE => k_is)
    (case v_BACK => k_is)
    (case v_ENTRY => k_is)
