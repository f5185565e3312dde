import PyProof.Rows.All
import Wide.All
import OpenK.AllK
import Wide.FinOn
import HandS.ForMost
import HandS.IsInst
import HandS.Star
import HandS.WideBits
import HandS.Style
import HandS.Wide
import HandS.Flow
import HandS.TupAny
import HandS.Zip
import KE.GoesNew
import KE.GoesMore
import PySem.Challenge.RW_sealround_k06_shortest_way_back
set_option Elab.async false
set_option linter.all false
set_option maxRecDepth 100000
set_option maxHeartbeats 4000000
namespace Z
open PySem L2

/-! ## one heap and the next: all but what stands in A is kept, tuples and what is locked always, nothing goes -/
structure Kp (A : List Addr) (H H' : Hp) : Prop where
  k : ∀ q o, q ∉ A → H q = some o → H' q = some o
  t : ∀ q xs, H q = some (.tup xs) → H' q = some (.tup xs)
  z : ∀ q o u, H q = some (.frz o u) → H' q = some (.frz o u)
  n : ∀ q, H' q = none → H q = none
theorem Kp.refl (A : List Addr) (H : Hp) : Kp A H H := ⟨fun _ _ _ h => h, fun _ _ h => h, fun _ _ _ h => h, fun _ h => h⟩
theorem Kp.tr {A B : List Addr} {H H1 H2 : Hp} (a : Kp A H H1) (b : Kp B H1 H2) (h : ∀ l ∈ B, l ∈ A ∨ H l = none) : Kp A H H2 :=
  ⟨fun q o hq e => b.k q o (fun m => (h q m).elim hq fun z => by rw [z] at e; cases e) (a.k q o hq e), fun q xs e => b.t q xs (a.t q xs e), fun q o u e => b.z q o u (a.z q o u e), fun q e => a.n q (b.n q e)⟩
theorem Kp.tr0 {A : List Addr} {H H1 H2 : Hp} (a : Kp A H H1) (b : Kp [] H1 H2) : Kp A H H2 := a.tr b fun _ m => nomatch m
theorem Kp.tr1 {A : List Addr} {l : Addr} {H H1 H2 : Hp} (a : Kp A H H1) (b : Kp [l] H1 H2) (h : l ∈ A ∨ H l = none) : Kp A H H2 := a.tr b fun q m => by
  have e : q = l := by simpa using m
  rw [e]; exact h
theorem Kp.there {A : List Addr} {H H' : Hp} {q : Addr} {o : HO} (a : Kp A H H') (h : H q = some o) : H' q ≠ none := fun e => by
  rw [a.n q e] at h; cases h
theorem Kp.wk {A B : List Addr} {H H' : Hp} (a : Kp A H H') (h : ∀ l ∈ A, l ∈ B) : Kp B H H' := ⟨fun q o hq e => a.k q o (fun m => hq (h q m)) e, a.t, a.z, a.n⟩
theorem Kp.new {H : Hp} {p : Addr} {o : HO} (h : H p = none) : Kp [] H (upd H p o) := by
  have k : ∀ q u, H q = some u → upd H p o q = some u := fun q u e => by rw [upd_ne (ne_of_none e h)]; exact e
  refine ⟨fun q u _ e => k q u e, fun q xs e => k q _ e, fun q _ _ e => k q _ e, fun q e => ?_⟩
  cases hq : H q with
  | none => rfl
  | some u => rw [k q u hq] at e; cases e
/-- what may be changed -/
def Mu : HO → Bool
  | .tup _ => false
  | .frz _ _ => false
  | _ => true
theorem Kp.set {H : Hp} {l : Addr} {o u : HO} (h : H l = some u) (m : Mu u = true) : Kp [l] H (upd H l o) := by
  refine ⟨fun q u' hq e => ?_, fun q xs e => ?_, fun q o' u' e => ?_, fun q e => ?_⟩
  · rw [upd_ne (by simpa using hq)]; exact e
  · have ne : q ≠ l := fun z => by
      rw [z, h] at e; cases e; cases m
    rw [upd_ne ne]; exact e
  · have ne : q ≠ l := fun z => by
      rw [z, h] at e; cases e; cases m
    rw [upd_ne ne]; exact e
  · by_cases z : q = l
    · rw [z, upd_same] at e; cases e
    · rw [upd_ne z] at e; exact e
theorem Kp.tup {K : PySem.W.Frag} {A : List Addr} {H H' : Hp} {p : Addr} {xs : List V} (a : Kp A H H') (h : SqT K H p xs) : SqT K H' p xs := by
  rcases h with (h | ⟨o, h⟩) | h
  · exact .inl (.inl (a.t _ _ h))
  · exact .inl (.inr ⟨o, a.z _ _ _ h⟩)
  · exact .inr h
theorem Kp.lst {K : PySem.W.Frag} {A : List Addr} {H H' : Hp} {p : Addr} {xs : List V} (a : Kp A H H') (np : p ∉ A) (h : SqL K H p xs) : SqL K H' p xs := by
  rcases h with (h | ⟨o, h⟩) | h
  · exact .inl (.inl (a.k _ _ np h))
  · exact .inl (.inr ⟨o, a.z _ _ _ h⟩)
  · exact .inr h
theorem Kp.lst0 {K : PySem.W.Frag} {H H' : Hp} {p : Addr} {xs : List V} (a : Kp [] H H') (h : SqL K H p xs) : SqL K H' p xs := a.lst (by simp) h
theorem Kp.at {A : List Addr} {H H' : Hp} {p : Addr} {o : HO} (a : Kp A H H') (np : p ∉ A) (h : H p = .some o) : H' p = .some o := a.k _ _ np h
theorem Kp.at0 {H H' : Hp} {p : Addr} {o : HO} (a : Kp [] H H') (h : H p = .some o) : H' p = .some o := a.k _ _ (by simp) h
theorem Kp.at1 {H H' : Hp} {b p : Addr} {o : HO} (k : Kp [b] H H') (n : p ≠ b) (h : H p = .some o) : H' p = .some o := k.at (by simpa using n) h
theorem Kp.lst1 {K : PySem.W.Frag} {H H' : Hp} {b p : Addr} {xs : List V} (k : Kp [b] H H') (n : p ≠ b) (h : SqL K H p xs) : SqL K H' p xs := k.lst (by simpa using n) h
theorem Kp.same {H H' : Hp} (a : Kp [] H H') : Same H H' := fun q o e => a.at0 e
theorem SqT.of' {K : PySem.W.Frag} {H : Hp} {p : Addr} {xs : List V} (h : H p = .some (.tup xs)) : SqT K H p xs := .inl (.inl h)
theorem SqL.of' {K : PySem.W.Frag} {H : Hp} {p : Addr} {xs : List V} (h : H p = .some (.lst xs)) : SqL K H p xs := .inl (.inl h)
/-- a list that nothing changes (the script) -/
theorem ne_lst {K : PySem.W.Frag} {H : Hp} {p l : Addr} {o u : HO} (h : H p = .some o) (h' : H l = .some u) (d : o ≠ u) : p ≠ l := ne_of h h' d

/-! ## names and slots, by syntax alone -/
inductive At : List Str → St → Str → V → Prop
  | z {x : Str} {N : List Str} {v : V} {σ : St} : At (x :: N) (some v :: σ) x v
  | s {x y : Str} {N : List Str} {o : Option V} {v : V} {σ : St} : At N σ x v → At (y :: N) (o :: σ) x v
inductive Put : List Str → St → Str → V → St → Prop
  | z {x : Str} {N : List Str} {o : Option V} {v : V} {σ : St} : Put (x :: N) (o :: σ) x v (some v :: σ)
  | s {x y : Str} {N : List Str} {o : Option V} {v : V} {σ σ' : St} : Put N σ x v σ' → Put (y :: N) (o :: σ) x v (o :: σ')
inductive Mem : List Str → Str → Prop
  | z {x : Str} {N : List Str} : Mem (x :: N) x
  | s {x y : Str} {N : List Str} : Mem N x → Mem (y :: N) x
theorem At.ix {N : List Str} {σ : St} {x : Str} {v : V} (h : At N σ x v) : ∃ i : Nat, N[i]? = some x ∧ σ[i]? = some (some v) := by
  induction h with
  | z => exact ⟨0, rfl, rfl⟩
  | s _ ih => obtain ⟨i, a, b⟩ := ih; exact ⟨i + 1, by simpa using a, by simpa using b⟩
theorem Put.ix {N : List Str} {σ σ' : St} {x : Str} {v : V} (h : Put N σ x v σ') : ∃ i : Nat, N[i]? = some x ∧ σ.set i (some v) = σ' := by
  induction h with
  | z => exact ⟨0, rfl, rfl⟩
  | s _ ih => obtain ⟨i, a, b⟩ := ih; exact ⟨i + 1, by simpa using a, by simp [b]⟩
theorem Mem.mem {N : List Str} {x : Str} (h : Mem N x) : x ∈ N := by
  induction h with
  | z => simp
  | s _ ih => simp [ih]

/-! ## a block's scope: the names that it may read, may store; what it reads of the module -/
def okC (sc : Scope) (Vs Ls G : List Str) : Bool := Vs.all (fun x => sc.names.lookup x == some .local || sc.names.lookup x == some .cell || sc.names.lookup x == some .free) && Ls.all (fun x => sc.names.lookup x == some .local || sc.names.lookup x == some .cell) && G.all (fun x => sc.names.lookup x == some .globalImplicit)
theorem kind_of_beq : ∀ (a b : Option NameKind), (a == b) = true → a = b := fun a b h => by
  cases a <;> cases b <;> first | rfl | cases h | skip
  rename_i a b; cases a <;> cases b <;> first | rfl | cases h
theorem okC.vis {sc : Scope} {Vs Ls G : List Str} (h : okC sc Vs Ls G = true) {x : Str} (hx : x ∈ Vs) : Vis sc x := by
  unfold okC at h
  simp only [Bool.and_eq_true, List.all_eq_true, Bool.or_eq_true] at h
  rcases h.1.1 x hx with (q | q) | q
  · exact .inl (kind_of_beq _ _ q)
  · exact .inr (.inl (kind_of_beq _ _ q))
  · exact .inr (.inr (kind_of_beq _ _ q))
theorem okC.loc {sc : Scope} {Vs Ls G : List Str} (h : okC sc Vs Ls G = true) {x : Str} (hx : x ∈ Ls) : Loc sc x := by
  unfold okC at h
  simp only [Bool.and_eq_true, List.all_eq_true, Bool.or_eq_true] at h
  exact (h.1.2 x hx).imp (kind_of_beq _ _) (kind_of_beq _ _)
theorem okC.gl {sc : Scope} {Vs Ls G : List Str} (h : okC sc Vs Ls G = true) {x : Str} (hx : x ∈ G) : sc.names.lookup x = some .globalImplicit := by
  unfold okC at h
  simp only [Bool.and_eq_true, List.all_eq_true, Bool.or_eq_true] at h
  exact kind_of_beq _ _ (h.2 x hx)

/-! ## the judgements: a piece of syntax from a state -/
section
inductive XE (X : Cx) (e : Expr) (σ : St) (H : Hp) (Q : VK) : Prop
  | mk (t : TE) (h : PE X e t) (q : t σ H Q)
inductive XT (X : Cx) (e : Expr) (σ : St) (H : Hp) (Q : Bool → Hp → Prop) : Prop
  | mk (t : TT) (h : PT X e t) (q : t σ H Q)
inductive XW (X : Cx) (e : Expr) (σ : St) (H : Hp) (Q : Bool → Hp → Prop) : Prop
  | mk (t : TT) (h : PW X e t) (q : t σ H Q)
inductive XA (X : Cx) (es : List Expr) (σ : St) (H : Hp) (Q : List V → Hp → Prop) : Prop
  | mk (t : TA) (h : PA X es t) (q : t σ H Q)
inductive XO (X : Cx) (e : Option Expr) (σ : St) (H : Hp) (Q : Option Int → Hp → Prop) : Prop
  | mk (t : TO) (h : PO X e t) (q : t σ H Q)
inductive XG (X : Cx) (e : Expr) (v : V) (σ : St) (H : Hp) (Q : St → Hp → Prop) : Prop
  | mk (t : TG) (h : PG X e t) (q : t v σ H Q)
inductive XGs (X : Cx) (es : List Expr) (v : List V) (σ : St) (H : Hp) (Q : St → Hp → Prop) : Prop
  | mk (t : TGs) (h : PGs X es t) (q : t v σ H Q)
inductive XI (X : Cx) (tg e : Expr) (σ : St) (H : Hp) (R : It → Hp → Prop) : Prop
  | mk (t : TI) (h : PI X tg e t) (q : t σ H R)
/-- what is wanted behind a return, a break, a continue -/
structure B3 where
  rt : VK
  bk : St → Hp → Prop
  ct : St → Hp → Prop
inductive XS (X : Cx) (s : Stmt) (nx : St → Hp → Prop) (D : B3) (σ : St) (H : Hp) : Prop
  | mk (t : TS) (h : PS X s t) (q : t ⟨nx, D.rt, D.bk, D.ct⟩ σ H)
inductive XB (X : Cx) (s : List Stmt) (nx : St → Hp → Prop) (D : B3) (σ : St) (H : Hp) : Prop
  | mk (t : TS) (h : PSs X s t) (q : t ⟨nx, D.rt, D.bk, D.ct⟩ σ H)
/-! by values -/
inductive VO (X : Cx) (f : Value → Value → Sem Value) (x y : V) (H : Hp) (Q : VK) : Prop
  | mk (r : R2) (h : OpR X f r) (q : r x y H Q)
inductive VU (X : Cx) (f : Value → Sem Value) (x : V) (H : Hp) (Q : VK) : Prop
  | mk (r : V → Hp → VK → Prop) (h : UnR X f r) (q : r x H Q)
inductive VC (X : Cx) (f : Value) (xs : List V) (H : Hp) (Q : VK) : Prop
  | mk (r : List V → Hp → VK → Prop) (h : CallR X f r) (q : r xs H Q)
inductive VX (X : Cx) (x y : V) (H : Hp) (Q : VK) : Prop
  | mk (r : R2) (h : IxR X r) (q : r x y H Q)
inductive VSl (X : Cx) (x : V) (a b : Option Int) (H : Hp) (Q : VK) : Prop
  | mk (r : V → Option Int → Option Int → Hp → VK → Prop) (h : SlR X r) (q : r x a b H Q)
inductive VM (X : Cx) (id : String) (x : V) (xs : List V) (H : Hp) (Q : VK) : Prop
  | mk (r : V → List V → Hp → VK → Prop) (h : MtR X id r) (q : r x xs H Q)
inductive VT (X : Cx) (x : V) (H : Hp) (Q : Bool → Hp → Prop) : Prop
  | mk (k : Bool) (h : TruV X.K x H k) (q : Q k H)
inductive VSt (X : Cx) (o i v : V) (H : Hp) (Q : Hp → Prop) : Prop
  | mk (r : TSet) (h : PSet X r) (q : r o i v H Q)
inductive VIp (X : Cx) (op : Operator) (x y : V) (H : Hp) (Q : VK) : Prop
  | mk (r : TIp) (h : PIp X op r) (q : r x y H Q)
theorem VT.ex {X : Cx} {x : V} {H : Hp} {Q : Bool → Hp → Prop} (h : VT X x H Q) : ∃ k, TruV X.K x H k ∧ Q k H := by
  obtain ⟨k, a, b⟩ := h
  exact ⟨k, a, b⟩
end
section
variable {X : Cx} {σ σ' : St} {H : Hp} {Q : VK} {e a b : Expr} {es : List Expr} {pos p1 p2 p3 : Pos}
theorem XE.pe : PE X e (XE X e) := ⟨fun pins s σ H Q I ⟨_, ht, q⟩ => ht.run pins s σ H Q I q⟩
theorem XT.pt : PT X e (XT X e) := ⟨fun pins s σ H Q I ⟨_, ht, q⟩ => ht.run pins s σ H Q I q⟩
theorem XW.pw : PW X e (XW X e) := ⟨fun wh pins s σ H Q I ⟨_, ht, q⟩ => ht.run wh pins s σ H Q I q⟩
theorem XA.pa : PA X es (XA X es) := ⟨fun pos pins s σ H Q I ⟨_, ht, q⟩ => ht.run pos pins s σ H Q I q⟩
theorem XO.po {e : Option Expr} : PO X e (XO X e) := ⟨fun pins s σ H Q I ⟨_, ht, q⟩ => ht.run pins s σ H Q I q⟩
theorem XG.pg : PG X e (XG X e) := ⟨fun pins s σ H v u Q I r ⟨_, ht, q⟩ => ht.run pins s σ H v u Q I r q⟩
theorem XGs.pgs : PGs X es (XGs X es) := ⟨fun pins s σ H v u Q I r ⟨_, ht, q⟩ => ht.run pins s σ H v u Q I r q⟩
theorem XI.pi {tg : Expr} : PI X tg e (XI X tg e) := ⟨fun pins s σ H R I ⟨_, ht, q⟩ => ht.run pins s σ H R I q⟩
/-- a statement's reading with the wish behind it fixed apart -/
theorem XS.ps {s : Stmt} : PS X s (fun D σ H => XS X s D.nx ⟨D.rt, D.bk, D.ct⟩ σ H) := ⟨fun pins s σ H D I ⟨_, ht, q⟩ => ht.run pins s σ H D I q⟩
theorem XB.ps {s : List Stmt} : PSs X s (fun D σ H => XB X s D.nx ⟨D.rt, D.bk, D.ct⟩ σ H) := ⟨fun pins s σ H D I ⟨_, ht, q⟩ => ht.run pins s σ H D I q⟩
theorem VO.ok {f : Value → Value → Sem Value} : OpR X f (VO X f) := fun pins s σ H x y v u Q I r1 r2 ⟨_, hr, q⟩ => hr pins s σ H x y v u Q I r1 r2 q
theorem VU.ok {f : Value → Sem Value} : UnR X f (VU X f) := fun pins s σ H x v Q I r1 ⟨_, hr, q⟩ => hr pins s σ H x v Q I r1 q
theorem VC.ok {f : Value} : CallR X f (VC X f) := fun pins s σ H x v Q I r1 ⟨_, hr, q⟩ => hr pins s σ H x v Q I r1 q
theorem VX.ok : IxR X (VX X) := fun v1 v2 pins s σ H x y v u Q I r1 r2 ⟨_, hr, q⟩ hs => hr v1 v2 pins s σ H x y v u Q I r1 r2 q hs
theorem VM.ok {id : String} : MtR X id (VM X id) := fun pins s σ H x xs v us Q I r1 r2 ⟨_, hr, q⟩ => hr pins s σ H x xs v us Q I r1 r2 q
theorem VSl.ok : SlR X (VSl X) := by
  intro pins s σ H x v vl vu lo hi sl Q I rx hs pl pu ⟨_, hr, q⟩
  exact hr pins s σ H x v vl vu lo hi sl Q I rx hs pl pu q
theorem VSt.ok : PSet X (VSt X) := fun pins s σ H o i v ov iv u Q I r1 r2 r3 ⟨_, hr, q⟩ => hr pins s σ H o i v ov iv u Q I r1 r2 r3 q
theorem VIp.ok {op : Operator} : PIp X op (VIp X op) := fun pins s σ H x y v u Q I r1 r2 ⟨_, hr, q⟩ => hr pins s σ H x y v u Q I r1 r2 q


/-! ## more is wanted than asked -/
theorem XE.mono {Q' : VK} (h : XE X e σ H Q) (m : ∀ v H', Q v H' → Q' v H') : XE X e σ H Q' := by
  obtain ⟨t, ht, q⟩ := h
  exact ⟨fun σ H R => ∃ R', t σ H R' ∧ ∀ v H', R' v H' → R v H', ⟨fun pins s σ H R I ⟨R', q, m⟩ => thn (ht.run pins s σ H R' I q) fun v s ⟨x, H', I', r, z⟩ => ⟨x, H', I', r, m _ _ z⟩⟩, Q, q, m⟩
theorem XT.mono {Q Q' : Bool → Hp → Prop} (h : XT X e σ H Q) (m : ∀ v H', Q v H' → Q' v H') : XT X e σ H Q' := by
  obtain ⟨t, ht, q⟩ := h
  exact ⟨fun σ H R => ∃ R', t σ H R' ∧ ∀ v H', R' v H' → R v H', ⟨fun pins s σ H R I ⟨R', q, m⟩ => thn (ht.run pins s σ H R' I q) fun v s ⟨H', I', z⟩ => ⟨H', I', m _ _ z⟩⟩, Q, q, m⟩
theorem XW.mono {Q Q' : Bool → Hp → Prop} (h : XW X e σ H Q) (m : ∀ v H', Q v H' → Q' v H') : XW X e σ H Q' := by
  obtain ⟨t, ht, q⟩ := h
  exact ⟨fun σ H R => ∃ R', t σ H R' ∧ ∀ v H', R' v H' → R v H', ⟨fun wh pins s σ H R I ⟨R', q, m⟩ => thn (ht.run wh pins s σ H R' I q) fun v s ⟨H', I', z⟩ => ⟨H', I', m _ _ z⟩⟩, Q, q, m⟩
theorem XA.mono {Q Q' : List V → Hp → Prop} (h : XA X es σ H Q) (m : ∀ v H', Q v H' → Q' v H') : XA X es σ H Q' := by
  obtain ⟨t, ht, q⟩ := h
  exact ⟨fun σ H R => ∃ R', t σ H R' ∧ ∀ v H', R' v H' → R v H', ⟨fun pos pins s σ H R I ⟨R', q, m⟩ => thn (ht.run pos pins s σ H R' I q) fun v s ⟨x, H', I', r, z⟩ => ⟨x, H', I', r, m _ _ z⟩⟩, Q, q, m⟩
theorem VO.mono {f : Value → Value → Sem Value} {x y : V} {Q' : VK} (h : VO X f x y H Q) (m : ∀ v H', Q v H' → Q' v H') : VO X f x y H Q' := by
  obtain ⟨t, ht, q⟩ := h
  exact ⟨fun x y H R => ∃ R', t x y H R' ∧ ∀ v H', R' v H' → R v H', fun pins s σ H x y v u R I rx ry ⟨R', q, m⟩ => thn (ht pins s σ H x y v u R' I rx ry q) fun v s ⟨x, H', I', r, z⟩ => ⟨x, H', I', r, m _ _ z⟩, Q, q, m⟩
theorem VC.mono {f : Value} {xs : List V} {Q' : VK} (h : VC X f xs H Q) (m : ∀ v H', Q v H' → Q' v H') : VC X f xs H Q' := by
  obtain ⟨t, ht, q⟩ := h
  exact ⟨fun xs H R => ∃ R', t xs H R' ∧ ∀ v H', R' v H' → R v H', fun pins s σ H x v R I rx ⟨R', q, m⟩ => thn (ht pins s σ H x v R' I rx q) fun v s ⟨x, H', I', r, z⟩ => ⟨x, H', I', r, m _ _ z⟩, Q, q, m⟩

/-! ## the context of a body -/
structure Ctx (X : Cx) (sc : Scope) (N Vs Ls G : List Str) (k : Nat) : Prop where
  hN : X.N = N
  nd : N.Nodup
  esc : X.env.scope = sc
  ok : okC sc Vs Ls G = true
  calm : X.calm = true
  fn : ∀ x ∈ Ls, X.fn x = true
  never : X.xe = fun _ _ => False
  knd : sc.kind = .function
  room : Room k X.A
variable {N Vs Ls G : List Str} {k : Nat} {D : B3} {nx : St → Hp → Prop} {K : PySem.W.Frag} {sc : Scope}
theorem Ctx.vis (C : Ctx X sc N Vs Ls G k) {x : Str} (h : Mem Vs x) : Vis X.env.scope x := by rw [C.esc]; exact okC.vis C.ok h.mem
theorem Ctx.loc (C : Ctx X sc N Vs Ls G k) {x : Str} (h : Mem Ls x) : Loc X.env.scope x := by rw [C.esc]; exact okC.loc C.ok h.mem
theorem Ctx.gl (C : Ctx X sc N Vs Ls G k) {x : Str} (h : Mem G x) : Gl X x := by
  show X.env.scope.names.lookup x = _
  rw [C.esc]; exact okC.gl C.ok h.mem
theorem Ctx.hu (C : Ctx X sc N Vs Ls G k) : X.A.units + 1 < cLine := hu_of C.room
theorem Ctx.po (C : Ctx X sc N Vs Ls G k) : PassesOwn (model X.prog X.w) X.A X.env X.xe := by rw [C.never]; exact PassesOwn.never

/-! ## expressions -/
/-- a name: hd, hcd by decide -/
theorem xe_var {x : Str} {v : V} (C : Ctx X sc N Vs Ls G k) (hv : Mem Vs x) (h : At N σ x v) (q : Q v H)
    (hd : (x == ("__debug__" : Str)) = false := by decide) (hcd : (x == ("__classdict__" : Str)) = false := by decide) : XE X (.Name x pos) σ H Q := by
  obtain ⟨i, h1, h2⟩ := h.ix
  exact ⟨_, pe_var (i := i) (by rw [C.hN]; exact h1) (C.vis hv) hd hcd, v, h2, q⟩
theorem xe_int {i : Int} {j : Nat} (q : Q (.int i) H) : XE X (.Constant (.int i) j pos) σ H Q := ⟨_, pe_int, q⟩
theorem xe_bl {i : Bool} {j : Nat} (q : Q (.bl i) H) : XE X (.Constant (.bool i) j pos) σ H Q := ⟨_, pe_bl, q⟩
theorem xe_non {j : Nat} (q : Q .non H) : XE X (.Constant .none j pos) σ H Q := ⟨_, pe_non, q⟩
theorem xe_str {i : Str} {j : Nat} (q : Q (.str i) H) : XE X (.Constant (.str i) j pos) σ H Q := ⟨_, pe_str, q⟩
theorem xe_glob {x : Str} {v : V} {u : Value} (C : Ctx X sc N Vs Ls G k) (hg : Mem G x) (hm : X.mg x = some u) (r : RelV v u) (q : Q v H) (hd : (x == ("__debug__" : Str)) = false := by decide) : XE X (.Name x pos) σ H Q := ⟨_, pe_glob (C.gl hg) hm r hd, q⟩
theorem xe_bin {op : Operator} (h : XE X a σ H fun x H1 => XE X b σ H1 fun y H2 => VO X (binaryOp op) x y H2 Q) : XE X (.BinOp a op b pos) σ H Q := ⟨_, pe_op VO.ok XE.pe XE.pe, h⟩
theorem xe_un {op : UnaryOp} (h : XE X a σ H fun x H1 => VU X (unaryOp op) x H1 Q) : XE X (.UnaryOp op a pos) σ H Q := ⟨_, pe_un VU.ok XE.pe, h⟩
theorem xe_not (h : XE X a σ H fun v H1 => VT X v H1 fun c H2 => Q (.bl (!c)) H2) : XE X (.UnaryOp .Not a pos) σ H Q := ⟨_, pe_notT XE.pe, h.mono fun _ _ z => z.ex⟩
theorem xe_and {rest : List Expr} (h : XE X a σ H fun v H1 => VT X v H1 fun k H1 => if k = true then XE X (.BoolOp .And (b :: rest) pos) σ H1 Q else Q v H1) : XE X (.BoolOp .And (a :: b :: rest) pos) σ H Q := ⟨_, pe_andT XE.pe XE.pe, h.mono fun _ _ z => z.ex⟩
theorem xe_or {rest : List Expr} (h : XE X a σ H fun v H1 => VT X v H1 fun k H1 => if k = true then Q v H1 else XE X (.BoolOp .Or (b :: rest) pos) σ H1 Q) : XE X (.BoolOp .Or (a :: b :: rest) pos) σ H Q := ⟨_, pe_orT XE.pe XE.pe, h.mono fun _ _ z => z.ex⟩
theorem xe_one {op : BoolOp} (h : XE X a σ H Q) : XE X (.BoolOp op [a] pos) σ H Q := ⟨_, pe_one XE.pe, h⟩
theorem xe_cmp {op : CmpOp} (h : XE X a σ H fun x H1 => XE X b σ H1 fun y H2 => VO X (compareOp op) x y H2 Q) (hm : behindInMarks op b = false := by rfl) : XE X (.Compare a [op] [b] pos) σ H Q := ⟨_, pe_cmpR VO.ok XE.pe XE.pe hm, h⟩
theorem xe_chain {op op' : CmpOp} {c : Expr} (h : XE X a σ H fun x H1 => XE X b σ H1 fun y H2 => VO X (compareOp op) x y H2 fun z H3 => ∃ k, z = .bl k ∧
    if k = true then XE X c σ H3 (fun y' H4 => VO X (compareOp op') y y' H4 Q) else Q (.bl false) H3) (hm : lastMarks [op, op'] [b, c] = false := by with_unfolding_all rfl) : XE X (.Compare a [op, op'] [b, c] pos) σ H Q := ⟨_, pe_chain VO.ok VO.ok XE.pe XE.pe XE.pe hm, h⟩
theorem xe_ifExp {c : Expr} (h : XT X c σ H fun k H1 => if k = true then XE X a σ H1 Q else XE X b σ H1 Q) : XE X (.IfExp c a b pos) σ H Q := ⟨_, pe_ifExp XT.pt XE.pe XE.pe, h⟩
theorem xe_ix (h : XE X a σ H fun x H1 => XE X b σ H1 fun y H2 => VX X x y H2 Q) (hs : PlainIx b := by exact fun _ _ => rfl) : XE X (.Subscript a b pos) σ H Q := ⟨_, pe_ix VX.ok XE.pe XE.pe hs, h⟩
theorem xe_sl {lo hi : Option Expr} (h : XE X a σ H fun x H1 => XO X lo σ H1 fun l H2 => XO X hi σ H2 fun u H3 => VSl X x l u H3 Q) : XE X (.Subscript a (.Slice lo hi none p2) pos) σ H Q := ⟨_, pe_slice VSl.ok XE.pe XO.po XO.po, h⟩
theorem xo_none {R : Option Int → Hp → Prop} (h : R none H) : XO X none σ H R := ⟨_, po_none, h⟩
theorem xo_some {R : Option Int → Hp → Prop} (h : XE X a σ H fun x H1 => ∃ i, x = .int i ∧ R (some i) H1) : XO X (some a) σ H R := ⟨_, po_some XE.pe, h⟩
theorem xa_nil {R : List V → Hp → Prop} (h : R [] H) : XA X [] σ H R := ⟨_, pa_nil, h⟩
theorem xa_cons {R : List V → Hp → Prop} (h : XE X a σ H fun x H1 => XA X es σ H1 fun xs H2 => R (x :: xs) H2) (hs : starEach (a :: es) X.env = (false, eval a X.env) :: starEach es X.env := by rfl) : XA X (a :: es) σ H R := ⟨_, pa_cons XE.pe XA.pa hs, h⟩
theorem xa_star {R : List V → Hp → Prop} (h : XE X a σ H fun x H1 => ∃ p xs, x = .ref p ∧ (SqT X.K H1 p xs ∨ SqL X.K H1 p xs) ∧ XA X es σ H1 fun ys H2 => R (xs ++ ys) H2) (hs : starEach (.Starred a p2 :: es) X.env = (true, eval a X.env) :: starEach es X.env := by rfl) : XA X (.Starred a p2 :: es) σ H R := ⟨_, StX.pa_star XE.pe XA.pa hs, h⟩

/-- a new object -/
theorem new_ {H : Hp} {o : HO} {R : Addr → Hp → Prop} (h : ∀ p H', Kp [] H H' → H p = none → H' p = some o → R p H') (p : Addr) (hp : H p = none) : R p (upd H p o) := h p _ (Kp.new hp) hp upd_same
/-- a new tuple, wanted by what it holds alone -/
theorem newT {K : PySem.W.Frag} {H : Hp} {xs : List V} {R : V → Hp → Prop} (h : ∀ p H', Kp [] H H' → SqT K H' p xs → R (.ref p) H') (p : Addr) (hp : H p = none) : R (.ref p) (upd H p (.tup xs)) := h p _ (Kp.new hp) (.inl (.inl upd_same))
theorem xe_tup {j : Nat} (h : XA X es σ H fun vs H1 => vs.length ≤ sizeLine ∧ ∀ p H', Kp [] H1 H' → SqT X.K H' p vs → H' p = some (.tup vs) → Q (.ref p) H') : XE X (.Tuple es j pos) σ H Q :=
  ⟨_, pe_tup XA.pa, h.mono fun _ _ ⟨a, b⟩ => ⟨a, fun p hp => b p _ (Kp.new hp) (.inl (.inl upd_same)) upd_same⟩⟩
theorem xe_lst (h : XA X es σ H fun vs H1 => vs.length ≤ sizeLine ∧ ∀ p H', Kp [] H1 H' → H1 p = none → H' p = some (.lst vs) → Q (.ref p) H') : XE X (.List es pos) σ H Q :=
  ⟨_, pe_lst XA.pa, h.mono fun _ _ ⟨a, b⟩ => ⟨a, new_ b⟩⟩

/-! ## tests -/
variable {R : Bool → Hp → Prop}
theorem xt_val (h : XE X e σ H fun v H1 => VT X v H1 R) (he : ∀ whole, isTrue e X.env whole = (do let v ← whole; standAt e.pos; holding [v] (truthy v)) := by intro _; rfl) : XT X e σ H R := ⟨_, pt_truth XE.pe he, h.mono fun _ _ z => z.ex⟩
theorem xt_cmp {op : CmpOp} (h : XE X a σ H fun x H1 => XE X b σ H1 fun y H2 => VO X (compareOp op) x y H2 fun z H3 => ∃ k, z = .bl k ∧ R k H3) (hm : behindInMarks op b = false := by rfl) : XT X (.Compare a [op] [b] pos) σ H R := ⟨_, pt_cmpR VO.ok XE.pe XE.pe hm, h⟩
theorem xt_chain {op op' : CmpOp} {c : Expr} (h : XE X a σ H fun x H1 => XE X b σ H1 fun y H2 => VO X (compareOp op) x y H2 fun z H3 => ∃ k, z = .bl k ∧
    if k = true then XE X c σ H3 (fun y' H4 => VO X (compareOp op') y y' H4 fun z' H5 => ∃ k', z' = .bl k' ∧ R k' H5) else R false H3) (hm : lastMarks [op, op'] [b, c] = false := by with_unfolding_all rfl) : XT X (.Compare a [op, op'] [b, c] pos) σ H R := by
  refine ⟨_, pt_chain VO.ok VO.ok XE.pe XE.pe XE.pe hm, XE.mono h fun x H1 h => XE.mono h fun y H2 h => VO.mono h fun z H3 ⟨k, e, h⟩ => ⟨k, e, ?_⟩⟩
  cases k with
  | true => exact h
  | false => exact ⟨false, rfl, h⟩
theorem xt_not (h : XT X a σ H fun c H1 => R (!c) H1) : XT X (.UnaryOp .Not a pos) σ H R := ⟨_, pt_not XT.pt, h⟩
theorem xt_bool {op : BoolOp} {es : List Expr} (h : XW X (.BoolOp op es pos) σ H R) : XT X (.BoolOp op es pos) σ H R := ⟨_, XW.pw.pt, h⟩
theorem xw_and {rest : List Expr} (h : XT X a σ H fun c H1 => if c = true then XW X (.BoolOp .And (b :: rest) pos) σ H1 R else R false H1) : XW X (.BoolOp .And (a :: b :: rest) pos) σ H R := ⟨_, pw_and XT.pt XW.pw, h⟩
theorem xw_and1 (h : XT X a σ H R) : XW X (.BoolOp .And [a] pos) σ H R := ⟨_, pw_and1 XT.pt, h⟩
theorem xw_or {rest : List Expr} (h : XT X a σ H fun c H1 => if c = true then R true H1 else XW X (.BoolOp .Or (b :: rest) pos) σ H1 R) : XW X (.BoolOp .Or (a :: b :: rest) pos) σ H R := ⟨_, pw_or XT.pt XW.pw, h⟩
theorem xw_or1 (h : XT X a σ H R) : XW X (.BoolOp .Or [a] pos) σ H R := ⟨_, pw_or1 XT.pt, h⟩

/-! ## values: operators, tests, calls -/
variable {i j : Int} {p q : Addr} {xs ys : List V} {v : V}
theorem vo_add (h : Q (.int (i + j)) H) : VO X (binaryOp .Add) (.int i) (.int j) H Q := ⟨_, op_add, i, j, rfl, rfl, h⟩
theorem vo_sub (h : Q (.int (i - j)) H) : VO X (binaryOp .Sub) (.int i) (.int j) H Q := ⟨_, op_sub, i, j, rfl, rfl, h⟩
theorem vo_mul (c : CMul i j) (h : Q (.int (i * j)) H) : VO X (binaryOp .Mult) (.int i) (.int j) H Q := ⟨_, op_mul, i, j, rfl, rfl, c, h⟩
theorem vo_mulX (c : CMulX i j) (h : Q (.int (i * j)) H) : VO X (binaryOp .Mult) (.int i) (.int j) H Q := ⟨_, op_mulX, i, j, rfl, rfl, c, h⟩
theorem vo_fdiv (c : CDiv i j) (h : Q (.int (i / j)) H) : VO X (binaryOp .FloorDiv) (.int i) (.int j) H Q := ⟨_, op_fdiv, i, j, rfl, rfl, c, h⟩
theorem vo_mod (c : 0 < j) (h : Q (.int (i % j)) H) : VO X (binaryOp .Mod) (.int i) (.int j) H Q := ⟨_, op_mod, i, j, rfl, rfl, c, h⟩
theorem vo_pow (c : CPow i j) (h : Q (.int (i ^ j.toNat)) H) : VO X (binaryOp .Pow) (.int i) (.int j) H Q := ⟨_, op_pow, i, j, rfl, rfl, c, h⟩
theorem vo_shl (c : CPow i j) (h : Q (.int (i * 2 ^ j.toNat)) H) : VO X (binaryOp .LShift) (.int i) (.int j) H Q := ⟨_, op_shl, i, j, rfl, rfl, c, h⟩
theorem vo_and (h : Q (.int (Builtin.bitAnd i j)) H) : VO X (binaryOp .BitAnd) (.int i) (.int j) H Q := ⟨_, op_and, i, j, rfl, rfl, h⟩
theorem vo_lt (h : Q (.bl (decide (i < j))) H) : VO X (compareOp .Lt) (.int i) (.int j) H Q := ⟨_, op_lt, i, j, rfl, rfl, h⟩
theorem vo_le (h : Q (.bl (decide (i ≤ j))) H) : VO X (compareOp .LtE) (.int i) (.int j) H Q := ⟨_, op_le, i, j, rfl, rfl, h⟩
theorem vo_gt (h : Q (.bl (decide (j < i))) H) : VO X (compareOp .Gt) (.int i) (.int j) H Q := ⟨_, op_gt, i, j, rfl, rfl, h⟩
theorem vo_ge (h : Q (.bl (decide (j ≤ i))) H) : VO X (compareOp .GtE) (.int i) (.int j) H Q := ⟨_, op_ge, i, j, rfl, rfl, h⟩
theorem vo_eq (h : Q (.bl (decide (i = j))) H) : VO X (compareOp .Eq) (.int i) (.int j) H Q := by
  refine ⟨_, op_eq, rfl, ?_⟩
  have e : decide (V.int i = V.int j) = decide (i = j) := by by_cases e : i = j <;> simp [e]
  rw [e]; exact h
theorem vo_ne (h : Q (.bl (!decide (i = j))) H) : VO X (compareOp .NotEq) (.int i) (.int j) H Q := by
  refine ⟨_, op_ne, rfl, ?_⟩
  have e : decide (V.int i = V.int j) = decide (i = j) := by by_cases e : i = j <;> simp [e]
  rw [e]; exact h
theorem vo_eqB {i j : Bool} (h : Q (.bl (i == j)) H) : VO X (compareOp .Eq) (.bl i) (.bl j) H Q := ⟨_, op_eq, rfl, by rw [dec_bl]; exact h⟩
theorem vo_neB {i j : Bool} (h : Q (.bl (!(i == j))) H) : VO X (compareOp .NotEq) (.bl i) (.bl j) H Q := ⟨_, op_ne, rfl, by rw [dec_bl]; exact h⟩
theorem vo_isB {i j : Bool} (h : Q (.bl (decide (i = j))) H) : VO X (compareOp .Is) (.bl i) (.bl j) H Q := ⟨_, op_isBl, i, j, rfl, rfl, h⟩
theorem vo_notB {i j : Bool} (h : Q (.bl (!decide (i = j))) H) : VO X (compareOp .IsNot) (.bl i) (.bl j) H Q := ⟨_, op_notBl, i, j, rfl, rfl, h⟩
theorem vo_isN (h : Q (.bl (decide (v = .non))) H) : VO X (compareOp .Is) v .non H Q := ⟨_, op_isN, rfl, h⟩
theorem vo_notN (h : Q (.bl (!decide (v = .non))) H) : VO X (compareOp .IsNot) v .non H Q := ⟨_, op_notN, rfl, h⟩
theorem vo_catT (hx : SqT X.K H p xs) (hy : SqT X.K H q ys) (hz : xs.length + ys.length ≤ sizeLine) (h : ∀ r H', Kp [] H H' → SqT X.K H' r (xs ++ ys) → Q (.ref r) H') : VO X (binaryOp .Add) (.ref p) (.ref q) H Q := by
  refine ⟨_, op_catA, p, q, xs, ys, rfl, rfl, hx, hy, hz, fun e => ?_, fun _ e => ?_, fun _ _ r hr => h r _ (Kp.new hr) (.inl (.inl upd_same))⟩
  · subst e; exact h q H (Kp.refl _ _) hy
  · subst e; exact h p H (Kp.refl _ _) (by simpa using hx)
theorem vo_catL (hx : H p = some (.lst xs)) (hy : H q = some (.lst ys)) (hz : xs.length + ys.length ≤ sizeLine) (h : ∀ r H', Kp [] H H' → H r = none → H' r = some (.lst (xs ++ ys)) → Q (.ref r) H') : VO X (binaryOp .Add) (.ref p) (.ref q) H Q :=
  ⟨_, op_cat, p, q, xs, ys, rfl, rfl, hx, hy, hz, new_ h⟩
theorem vu_neg (h : Q (.int (-i)) H) : VU X (unaryOp .USub) (.int i) H Q := ⟨_, un_neg, i, rfl, h⟩
theorem vx_tup (hx : SqT X.K H p xs) (hi : atI xs i = some v) (h : Q v H) : VX X (.ref p) (.int i) H Q := ⟨_, ix_tup, p, xs, i, v, rfl, rfl, hx, hi, h⟩
theorem vx_lst (hx : SqL X.K H p xs) (hi : atI xs i = some v) (h : Q v H) : VX X (.ref p) (.int i) H Q := ⟨_, ix_list, p, xs, i, v, rfl, rfl, hx, hi, h⟩
theorem vsl_tup {lo hi : Option Int} (hx : SqT X.K H p xs) (h : ∀ r H', Kp [] H H' → SqT X.K H' r (cutV xs lo hi) → Q (.ref r) H') : VSl X (.ref p) lo hi H Q := by
  refine ⟨_, sl_tupA, p, xs, rfl, hx, fun e => ?_, fun _ r hr => h r _ (Kp.new hr) (.inl (.inl upd_same))⟩
  refine h p H (Kp.refl _ _) ?_
  have e2 : cutV xs lo hi = xs := by unfold cutV; rw [e.1, e.2]; simp
  rw [e2]; exact hx
theorem vsl_lst {lo hi : Option Int} (hx : SqL X.K H p xs) (h : ∀ r H', Kp [] H H' → H r = none → H' r = some (.lst (cutV xs lo hi)) → Q (.ref r) H') : VSl X (.ref p) lo hi H Q := ⟨_, sl_list, p, xs, rfl, hx, new_ h⟩
theorem vt_bl {c : Bool} (h : R c H) : VT X (.bl c) H R := ⟨c, rfl, h⟩
theorem vt_int (h : R (i != 0) H) : VT X (.int i) H R := ⟨_, rfl, h⟩
theorem vt_tup (hx : SqT X.K H p xs) (h : R (!xs.isEmpty) H) : VT X (.ref p) H R := ⟨_, .inr (.inl ⟨xs, hx, rfl⟩), h⟩
theorem vt_lst (hx : SqL X.K H p xs) (h : R (!xs.isEmpty) H) : VT X (.ref p) H R := ⟨_, .inl ⟨xs, hx, rfl⟩, h⟩
theorem vc_lenT (hx : SqT X.K H p xs) (h : Q (.int xs.length) H) : VC X (.builtin "len") [.ref p] H Q := ⟨_, call_len_seq, p, xs, rfl, .inr hx, h⟩
theorem vc_lenL (hx : SqL X.K H p xs) (h : Q (.int xs.length) H) : VC X (.builtin "len") [.ref p] H Q := ⟨_, call_len_seq, p, xs, rfl, .inl hx, h⟩
theorem vc_int (h : Q (.int i) H) : VC X (.type "int") [.int i] H Q := ⟨_, call_int1, .inl ⟨i, rfl, h⟩⟩
theorem vc_intB {c : Bool} (h : Q (.int (if c then 1 else 0)) H) : VC X (.type "int") [.bl c] H Q := ⟨_, call_int1, .inr ⟨c, rfl, h⟩⟩
theorem vc_abs (h : Q (.int (if i < 0 then -i else i)) H) : VC X (.builtin "abs") [.int i] H Q := ⟨_, call_abs, i, rfl, h⟩
theorem vc_listT (hx : SqT X.K H p xs) (h : ∀ r H', Kp [] H H' → H r = none → H' r = some (.lst xs) → Q (.ref r) H') : VC X (.type "list") [.ref p] H Q := ⟨_, call_list_of, p, xs, rfl, .inr hx, new_ h⟩
theorem vc_listL (hx : SqL X.K H p xs) (h : ∀ r H', Kp [] H H' → H r = none → H' r = some (.lst xs) → Q (.ref r) H') : VC X (.type "list") [.ref p] H Q := ⟨_, call_list_of, p, xs, rfl, .inl hx, new_ h⟩
theorem vc_tupL (hx : SqL X.K H p xs) (h : ∀ r H', Kp [] H H' → SqT X.K H' r xs → Q (.ref r) H') : VC X (.type "tuple") [.ref p] H Q := ⟨_, call_tuple_of, p, xs, rfl, .inl ⟨hx, newT h⟩⟩
theorem vc_isi {x : V} {t c : String} {u : Bool} (ht : TyX X.K H x (.type t)) (hk : kitB t c = some u) (h : Q (.bl u) H) : VC X (.builtin "isinstance") [x, .ty c] H Q := ⟨_, call_isi, x, .ty c, .type t, .type c, u, rfl, .ty c, ht, kit_ty hk, h⟩

/-! ## calls -/
/-- a def of the module and its promise -/
structure DefOk (P : Program) (w : World) (K : PySem.W.Frag) (mg : Str → Option Value) (base : Heap) (x : Str) (ps : List Str) (k : Nat) (sp : Sp) : Prop where
  ex : ∃ f fd, FnOk P w K mg base CX0 k f fd ps sp ∧ mg x = some (.ref f) ∧ PySem.W.keepIn K (.ref f) = true ∧ Binds K fd ps []
variable {x : Str} {ps : List Str} {k' : Nat} {sp : Sp}
theorem xe_call (C : Ctx X sc N Vs Ls G k) (F : DefOk X.prog X.w X.K X.mg X.base x ps k' sp) (hg : Mem G x) (hk : k' ≤ k) (h : XA X (a :: es) σ H fun vs H1 => sp vs H1 Q E0)
    (hdb : (x == ("__debug__" : Str)) = false := by decide) (he : starEach (a :: es) X.env = (false, eval a X.env) :: starEach es X.env := by rfl) (hpl : (backTo pos (starEach es X.env)).any (·.1) = false := by rfl) : XE X (.Call (.Name x p1) (a :: es) [] pos) σ H Q := by
  obtain ⟨f, fd, F, hm, kp, b⟩ := F.ex
  exact ⟨_, pe_call F (C.room.mono hk) (C.gl hg) hm kp b .nil pass0 XA.pa hdb he hpl, by
    refine XA.mono h fun vs H1 q => ?_
    rw [List.append_nil]; exact q⟩
theorem xe_callB {id : String} (C : Ctx X sc N Vs Ls G k) (hg : Mem G x) (hm : X.mg x = none) (hv : bootBuiltins x = some (.builtin id)) (h : XA X (a :: es) σ H fun vs H1 => VC X (.builtin id) vs H1 Q)
    (hn : x ≠ "__name__" := by decide) (hdb : (x == ("__debug__" : Str)) = false := by decide) (he : starEach (a :: es) X.env = (false, eval a X.env) :: starEach es X.env := by rfl) (hpl : (backTo pos (starEach es X.env)).any (·.1) = false := by rfl) :
    XE X (.Call (.Name x p1) (a :: es) [] pos) σ H Q := ⟨_, pe_callB VC.ok (C.gl hg) hm hv XA.pa hn hdb he hpl, h⟩
theorem xe_callTy {id : String} (C : Ctx X sc N Vs Ls G k) (hg : Mem G x) (hm : X.mg x = none) (hv : bootBuiltins x = some (.type id)) (h : XA X (a :: es) σ H fun vs H1 => VC X (.type id) vs H1 Q)
    (hn : x ≠ "__name__" := by decide) (hdb : (x == ("__debug__" : Str)) = false := by decide) (he : starEach (a :: es) X.env = (false, eval a X.env) :: starEach es X.env := by rfl) (hpl : (backTo pos (starEach es X.env)).any (·.1) = false := by rfl) :
    XE X (.Call (.Name x p1) (a :: es) [] pos) σ H Q := ⟨_, pe_callTy VC.ok (C.gl hg) hm hv XA.pa hn hdb he hpl, h⟩
/-- a built-in type's name as a value -/
theorem xe_ty {id : String} (C : Ctx X sc N Vs Ls G k) (hg : Mem G x) (hm : X.mg x = none) (hv : bootBuiltins x = some (.type id)) (h : Q (.ty id) H) (hn : x ≠ "__name__" := by decide) (hdb : (x == ("__debug__" : Str)) = false := by decide) : XE X (.Name x pos) σ H Q :=
  ⟨_, pe_bltn (v := .ty id) (C.gl hg) hm hv rfl hn hdb, h⟩
/-- n.bit_length() -/
theorem xe_bits {apos : Pos} (h : XE X a σ H fun y H1 => ∃ i, y = .int i ∧ Q (.int (Builtin.Int.intBits i : Nat)) H1) (hbase : attributeBase a "bit_length" X.env (eval a X.env) = eval a X.env := by rfl) (hline : (apos.endLine == pos.line) = true := by rfl) :
    XE X (.Call (.Attribute a "bit_length" apos) [] [] pos) σ H Q := ⟨_, pe_bits XE.pe hbase hline, h⟩
/-- o.f -/
theorem xe_fld {f : Str} (h : XE X a σ H fun y H1 => ∃ p C dx fs v, y = .ref p ∧ H1 p = some (.ins C dx fs) ∧ Cls X.K C ∧ NoAttr X.K C f ∧ fs.lookup f = some v ∧ Q v H1) (hb : attributeBase a f X.env (eval a X.env) = eval a X.env := by rfl) : XE X (.Attribute a f pos) σ H Q :=
  ⟨_, pe_fld XE.pe hb, h⟩
/-- xs.append(y) -/
theorem xe_append {apos : Pos} (h : XE X a σ H fun y H1 => ∃ l xs, y = .ref l ∧ H1 l = some (.lst xs) ∧ XE X b σ H1 fun z H2 => H2 l = some (.lst xs) ∧ xs.length < sizeLine ∧ ∀ H', Kp [l] H2 H' → H' l = some (.lst (xs ++ [z])) → Q .non H')
    (hbase : attributeBase a "append" X.env (eval a X.env) = eval a X.env := by rfl) (hs : starEach (b :: []) X.env = (false, eval b X.env) :: starEach [] X.env := by rfl) (hline : (apos.endLine == pos.line) = true := by rfl)
    (hfew : ((backTo pos (starEach [b] X.env)).all (fun x => !x.1) && (backToKw pos (keywordEach [] X.env)).all (fun x => x.1.isSome) && decide (([b] : List Expr).length + ([] : List Keyword).length + (if ([] : List Keyword).isEmpty then 0 else 1) < 30)) = true := by rfl)
    : XE X (.Call (.Attribute a "append" apos) [b] [] pos) σ H Q := by
  refine ⟨_, pe_bm PySem.F.plainAttrs_list PySem.F.slot_list_append PySem.F.type_list_append mt_append XE.pe XA.pa hbase hfew hline hs, ?_⟩
  refine XE.mono h fun y H1 ⟨l, xs, e, hl, q⟩ => ?_
  subst e
  refine ⟨.inl ⟨rfl, xs, .inl (.inl hl)⟩, xa_cons (hs := hs) (XE.mono q fun z H2 ⟨hl2, hz, q⟩ => xa_nil ?_)⟩
  exact ⟨l, xs, z, rfl, rfl, hl2, hz, q _ (Kp.set hl2 rfl) upd_same⟩

/-! ## statements -/
variable {s : Stmt} {sts sts' : List Stmt}
theorem xb_nil (h : nx σ H) : XB X [] nx D σ H := ⟨_, pss_nil, h⟩
theorem xb_cons (h : XS X s (fun σ' H' => XB X sts nx D σ' H') D σ H) : XB X (s :: sts) nx D σ H := ⟨_, pss_cons XS.ps XB.ps, h⟩
theorem xs_pass (h : nx σ H) : XS X (.Pass pos) nx D σ H := ⟨_, ps_pass, h⟩
theorem xs_break (h : D.bk σ H) : XS X (.Break pos) nx D σ H := ⟨_, ps_break, h⟩
theorem xs_cont (h : D.ct σ H) : XS X (.Continue pos) nx D σ H := ⟨_, ps_continue, h⟩
theorem xs_expr (h : XE X e σ H fun _ H1 => nx σ H1) (hs : swapsWith e none pos.line X.env = pure false := by rfl) : XS X (.Expr e pos) nx D σ H := ⟨_, ps_expr XE.pe hs, h⟩
theorem xs_ret (h : XE X e σ H D.rt) : XS X (.Return (some e) pos) nx D σ H := ⟨_, ps_ret XE.pe, h⟩
theorem xs_retN (h : D.rt .non H) : XS X (.Return none pos) nx D σ H := ⟨_, ps_retN, h⟩
theorem xs_if {c : Expr} (h : XT X c σ H fun k H1 => if k = true then XB X sts nx D σ H1 else XB X sts' nx D σ H1) : XS X (.If c sts sts' pos) nx D σ H := ⟨_, ps_if XT.pt XB.ps XB.ps, h⟩
theorem xs_set (C : Ctx X sc N Vs Ls G k) (h : XE X e σ H fun v H1 => ∃ σ', Put N σ x v σ' ∧ nx σ' H1) (hs : swapsWith e (some (.Name x p1)) pos.line X.env = pure false := by rfl) (hx : Mem N x) (hl : Mem Ls x) : XS X (.Assign [.Name x p1] e pos) nx D σ H := by
  have hx' := hx.mem
  obtain ⟨i, hi⟩ := List.getElem?_of_mem hx'
  refine ⟨_, ps_set (i := i) (by rw [C.hN]; exact C.nd) (by rw [C.hN]; exact hi) (C.loc hl) XE.pe hs (.inl (C.fn x hl.mem)), ?_⟩
  refine XE.mono h fun v H1 ⟨σ', hp, q⟩ => ?_
  obtain ⟨j, hj, e⟩ := hp.ix
  have ij : i = j := nd_ix C.nd hi hj
  subst ij
  show nx (σ.set i (some v)) H1
  rw [e]; exact q
theorem xg_name (C : Ctx X sc N Vs Ls G k) {v : V} {Q : St → Hp → Prop} (hx : Mem N x) (hl : Mem Ls x) (h : ∃ σ', Put N σ x v σ' ∧ Q σ' H) : XG X (.Name x p1) v σ H Q := by
  have hx' := hx.mem
  obtain ⟨i, hi⟩ := List.getElem?_of_mem hx'
  refine ⟨_, pg_name (i := i) (by rw [C.hN]; exact C.nd) (by rw [C.hN]; exact hi) (C.loc hl) (.inl (C.fn x hl.mem)), ?_⟩
  obtain ⟨σ', hp, q⟩ := h
  obtain ⟨j, hj, e⟩ := hp.ix
  have ij : i = j := nd_ix C.nd hi hj
  subst ij
  show Q (σ.set i (some v)) H
  rw [e]; exact q
theorem XG.mono {v : V} {Q Q' : St → Hp → Prop} (h : XG X e v σ H Q) (m : ∀ σ H, Q σ H → Q' σ H) : XG X e v σ H Q' := by
  obtain ⟨t, ht, q⟩ := h
  refine ⟨fun v σ H R => ∃ R', t v σ H R' ∧ ∀ σ H', R' σ H' → R σ H', ⟨fun pins s σ H v u R I r ⟨R', q, m⟩ => ?_⟩, Q, q, m⟩
  exact thn (ht.run pins s σ H v u R' I r q) fun _ s ⟨σ', H', I', z⟩ => ⟨σ', H', I', m _ _ z⟩
/-- a, b, .. = a tuple -/
theorem xg_tup {j : Nat} {v : V} {Q : St → Hp → Prop} (C : Ctx X sc N Vs Ls G k) (h : ∃ p xs, v = .ref p ∧ SqT X.K H p xs ∧ xs.length = (assignEach es X.env).length ∧ XGs X es xs σ H Q) (hst : (assignEach es X.env).findIdx? (·.1) = none := by rfl) : XG X (.Tuple es j pos) v σ H Q :=
  ⟨_, pg_tup C.calm XGs.pgs rfl hst, h⟩
/-- o[i] = v -/
theorem xs_setIx {o i : Expr} (h : XE X e σ H fun v H1 => XE X o σ H1 fun ov H2 => XE X i σ H2 fun iv H3 => ∃ l xs k j, ov = .ref l ∧ iv = .int k ∧ H3 l = some (.lst xs) ∧ ixN xs.length k = some j ∧ ∀ H', Kp [l] H3 H' → H' l = some (.lst (xs.set j v)) → nx σ H')
    (ha : ∀ v, assign (.Subscript o i p1) X.env v = (do
      let z1 ← holding [v] (eval o X.env)
      let z2 ← holding [v, z1] (eval i X.env)
      standAt p1; holding [v, z1, z2] (setItem z1 z2 v)
      release [v, z1, z2] []) := by intro _; rfl)
    (hs : swapsWithSole [.Subscript o i p1] e pos.line X.env = pure false := by rfl) (hw : swappedStores [.Subscript o i p1] e X.env = pure none := by rfl)
    (h1 : (assignEach [.Subscript o i p1] X.env).map (·.2) = [assign (.Subscript o i p1) X.env] := by rfl) : XS X (.Assign [.Subscript o i p1] e pos) nx D σ H := by
  refine ⟨_, ps_asg XE.pe (pg_sub XE.pe XE.pe set_list ha) hs hw h1, ?_⟩
  refine XE.mono h fun v H1 h => XE.mono h fun ov H2 h => XE.mono h fun iv H3 ⟨l, xs, k, j, e1, e2, hl, hj, q⟩ => ?_
  exact ⟨l, xs, k, j, e1, e2, hl, hj, q _ (Kp.set hl rfl) upd_same⟩
theorem XB.imp {nx' : St → Hp → Prop} (h : XB X sts nx D σ H) (m : ∀ σ H, nx σ H → nx' σ H) : XB X sts nx' D σ H := by
  obtain ⟨t, ht, q⟩ := h
  refine ⟨fun D σ H => ∃ nx0, t ⟨nx0, D.rt, D.bk, D.ct⟩ σ H ∧ ∀ σ H, nx0 σ H → D.nx σ H, ⟨fun pins s σ H D I ⟨nx0, q, m⟩ => thn (ht.run pins s σ H _ I q) fun f s1 z => ?_⟩, nx, q, m⟩
  cases f with
  | next => obtain ⟨σ', H', I', z⟩ := z; exact ⟨σ', H', I', m _ _ z⟩
  | brk => exact z
  | cont => exact z
  | ret u => exact z

/-! ## loops -/
variable {tg iter : Expr} {body : List Stmt}
/-- for x in a tuple; a list that stands still; a range -/
theorem xs_forT (C : Ctx X sc N Vs Ls G k) (h : XE X iter σ H fun v H1 => ∃ a xs, v = .ref a ∧ SqT X.K H1 a xs ∧ ∃ Pv : Nat → St → Hp → Prop, Pv 0 σ H1 ∧ (∀ i σ' H', i ≤ xs.length → Pv i σ' H' → SqT X.K H' a xs) ∧
    (∀ i y σ' H', xs[i]? = some y → Pv i σ' H' → XG X tg y σ' H' fun σ2 H2 => XB X body (Pv (i + 1)) ⟨D.rt, nx, Pv (i + 1)⟩ σ2 H2) ∧ ∀ σ' H', Pv xs.length σ' H' → nx σ' H')
    (hs : ∀ x, foldedSetIterable iter X.env x = pure x := by intro _; rfl) : XS X (.For tg iter body [] pos) nx D σ H := by
  refine ⟨_, ps_for C.po C.calm (pi_tup XE.pe) XG.pg XB.ps hs, ?_⟩
  refine XE.mono h fun v H1 ⟨a, xs, e, hx, Pv, h0, hl, hs, hd⟩ => ⟨a, e, ⟨xs, hx⟩, ?_⟩
  exact for_tup (K := X.K) (a := a) (xs := xs) (D := ⟨nx, D.rt, D.bk, D.ct⟩) (g := XG X tg) (tb := fun D σ H => XB X body D.nx ⟨D.rt, D.bk, D.ct⟩ σ H) Pv h0 hl hs hd
theorem xs_forL (C : Ctx X sc N Vs Ls G k) (h : XE X iter σ H fun v H1 => ∃ a xs, v = .ref a ∧ SqL X.K H1 a xs ∧ ∃ Pv : Nat → St → Hp → Prop, Pv 0 σ H1 ∧ (∀ i σ' H', i ≤ xs.length → Pv i σ' H' → SqL X.K H' a xs) ∧
    (∀ i y σ' H', xs[i]? = some y → Pv i σ' H' → XG X tg y σ' H' fun σ2 H2 => XB X body (Pv (i + 1)) ⟨D.rt, nx, Pv (i + 1)⟩ σ2 H2) ∧ ∀ σ' H', Pv xs.length σ' H' → nx σ' H')
    (hs : ∀ x, foldedSetIterable iter X.env x = pure x := by intro _; rfl) : XS X (.For tg iter body [] pos) nx D σ H := by
  refine ⟨_, ps_for C.po C.calm (pi_list XE.pe) XG.pg XB.ps hs, ?_⟩
  refine XE.mono h fun v H1 ⟨a, xs, e, hx, Pv, h0, hl, hs, hd⟩ => ⟨a, e, ⟨xs, hx⟩, ?_⟩
  exact for_list (K := X.K) (a := a) (xs := xs) (D := ⟨nx, D.rt, D.bk, D.ct⟩) (g := XG X tg) (tb := fun D σ H => XB X body D.nx ⟨D.rt, D.bk, D.ct⟩ σ H) Pv h0 hl hs hd
theorem xs_forR1 (C : Ctx X sc N Vs Ls G k) (hg : Mem G "range") (hm : X.mg "range" = none) (h : XA X [a] σ H fun vs H1 => ∃ j : Int, vs = [.int j] ∧ -(2 ^ 62) ≤ j ∧ j < 2 ^ 62 ∧ ∃ Pv : Nat → St → Hp → Prop, Pv 0 σ H1 ∧
    (∀ i σ' H', i < j.toNat → Pv i σ' H' → XG X tg (.int i) σ' H' fun σ2 H2 => XB X body (Pv (i + 1)) ⟨D.rt, nx, Pv (i + 1)⟩ σ2 H2) ∧ ∀ σ' H', Pv j.toNat σ' H' → nx σ' H')
    (hst : starEach [a] X.env = [(false, eval a X.env)] := by rfl) (hs : ∀ x, foldedSetIterable (.Call (.Name "range" p1) [a] [] p2) X.env x = pure x := by intro _; rfl) : XS X (.For tg (.Call (.Name "range" p1) [a] [] p2) body [] pos) nx D σ H := by
  refine ⟨_, ps_for C.po C.calm (pi_range1 (C.gl hg) hm XA.pa hst) XG.pg XB.ps hs, ?_⟩
  refine XA.mono h fun v H1 ⟨j, e, h1, h2, Pv, h0, hs, hd⟩ => ⟨j, e, h1, h2, ?_⟩
  refine for_range (lo := 0) (n := j.toNat) (D := ⟨nx, D.rt, D.bk, D.ct⟩) (g := XG X tg) (tb := fun D σ H => XB X body D.nx ⟨D.rt, D.bk, D.ct⟩ σ H) Pv h0 (fun i σ H hi p => ?_) hd
  rw [Int.zero_add]; exact hs i σ H hi p
theorem xs_forR2 (C : Ctx X sc N Vs Ls G k) (hg : Mem G "range") (hm : X.mg "range" = none) (h : XA X [a, b] σ H fun vs H1 => ∃ l j : Int, vs = [.int l, .int j] ∧ (-(2 ^ 62) ≤ l ∧ l < 2 ^ 62 ∧ -(2 ^ 62) ≤ j ∧ j < 2 ^ 62) ∧ ∃ Pv : Nat → St → Hp → Prop, Pv 0 σ H1 ∧
    (∀ i σ' H', i < (j - l).toNat → Pv i σ' H' → XG X tg (.int (l + i)) σ' H' fun σ2 H2 => XB X body (Pv (i + 1)) ⟨D.rt, nx, Pv (i + 1)⟩ σ2 H2) ∧ ∀ σ' H', Pv (j - l).toNat σ' H' → nx σ' H')
    (hst : starEach [a, b] X.env = [(false, eval a X.env), (false, eval b X.env)] := by rfl) (hs2 : starEach [b] X.env = [(false, eval b X.env)] := by rfl)
    (hs : ∀ x, foldedSetIterable (.Call (.Name "range" p1) [a, b] [] p2) X.env x = pure x := by intro _; rfl) : XS X (.For tg (.Call (.Name "range" p1) [a, b] [] p2) body [] pos) nx D σ H := by
  refine ⟨_, ps_for C.po C.calm (pi_range2 (C.gl hg) hm XA.pa hst hs2) XG.pg XB.ps hs, ?_⟩
  refine XA.mono h fun v H1 ⟨l, j, e, h1, Pv, h0, hs, hd⟩ => ⟨l, j, e, h1, ?_⟩
  exact for_range (lo := l) (n := (j - l).toNat) (D := ⟨nx, D.rt, D.bk, D.ct⟩) (g := XG X tg) (tb := fun D σ H => XB X body D.nx ⟨D.rt, D.bk, D.ct⟩ σ H) Pv h0 hs hd

/-- x op= e, x a plain name -/
theorem VIp.mono {op : Operator} {x y : V} {Q' : VK} (h : VIp X op x y H Q) (m : ∀ v H', Q v H' → Q' v H') : VIp X op x y H Q' := by
  obtain ⟨t, ht, q⟩ := h
  exact ⟨fun x y H R => ∃ R', t x y H R' ∧ ∀ v H', R' v H' → R v H', fun pins s σ H x y v u R I rx ry ⟨R', q, m⟩ => thn (ht pins s σ H x y v u R' I rx ry q) fun v s ⟨x, H', I', r, z⟩ => ⟨x, H', I', r, m _ _ z⟩, Q, q, m⟩
theorem xs_aug {x : Str} {v : V} {op : Operator} (C : Ctx X sc N Vs Ls G k) (ha : At N σ x v) (hl : Mem Ls x) (h : XE X e σ H fun y H1 => VIp X op v y H1 fun z H2 => ∃ σ', Put N σ x z σ' ∧ nx σ' H2) : XS X (.AugAssign (.Name x p1) op e pos) nx D σ H := by
  obtain ⟨i, hi, hv⟩ := ha.ix
  refine ⟨_, ps_aug (i := i) (by rw [C.hN]; exact C.nd) (by rw [C.hN]; exact hi) (C.loc hl) XE.pe VIp.ok (.inl (C.fn x hl.mem)), v, hv, ?_⟩
  refine XE.mono h fun y H1 h => VIp.mono h fun z H2 ⟨σ', hp, q⟩ => ?_
  obtain ⟨j, hj, e⟩ := hp.ix
  have ij : i = j := nd_ix C.nd hi hj
  subst ij
  show nx (σ.set i (some z)) H2
  rw [e]; exact q
theorem vip_add {i j : Int} (h : Q (.int (i + j)) H) : VIp X .Add (.int i) (.int j) H Q := ⟨_, ip_add, i, j, rfl, rfl, h⟩
theorem vip_sub {i j : Int} (h : Q (.int (i - j)) H) : VIp X .Sub (.int i) (.int j) H Q := ⟨_, ip_sub, i, j, rfl, rfl, h⟩
/-- for a, b in zip of two lists of one length -/
theorem xs_forZ {elts : List Expr} {kk : Nat} {tpos : Pos} (C : Ctx X sc N Vs Ls G k) (hg : Mem G "zip") (hm : X.mg "zip" = none) (h : XA X [a, b] σ H fun vs H1 => ∃ p q xs ys, vs = [.ref p, .ref q] ∧ SqL X.K H1 p xs ∧ SqL X.K H1 q ys ∧ xs.length = ys.length ∧ ∃ Pv : Nat → St → Hp → Prop, Pv 0 σ H1 ∧
    (∀ i σ' H', Pv i σ' H' → SqL X.K H' p xs ∧ SqL X.K H' q ys) ∧ (∀ i x y T σ' H' H2, xs[i]? = some x → ys[i]? = some y → Pv i σ' H' → Kp [] H' H2 → SqT X.K H2 T [x, y] → XG X (.Tuple elts kk tpos) (.ref T) σ' H2 fun σ3 H3 => XB X body (Pv (i + 1)) ⟨D.rt, nx, Pv (i + 1)⟩ σ3 H3) ∧ ∀ σ' H', Pv xs.length σ' H' → nx σ' H')
    (hs : starEach [a, b] X.env = (false, eval a X.env) :: starEach [b] X.env := by rfl) (hpl : (backTo p2 (starEach [b] X.env)).any (·.1) = false := by rfl) (hfs : ∀ x, foldedSetIterable (.Call (.Name "zip" p1) [a, b] [] p2) X.env x = pure x := by intro _; rfl) : XS X (.For (.Tuple elts kk tpos) (.Call (.Name "zip" p1) [a, b] [] p2) body [] pos) nx D σ H := by
  refine ⟨_, ps_for C.po C.calm (pi_zip (C.gl hg) hm XA.pa hs hpl) XG.pg XB.ps hfs, ?_⟩
  refine XA.mono h fun vs H1 ⟨p, q, xs, ys, e, hx, hy, hl, Pv, h0, hq, hs, hd⟩ => ⟨p, q, xs, ys, e, hx, hy, ?_⟩
  exact RZ.for_zipL (K := X.K) (a := p) (b := q) (xs := xs) (ys := ys) (D := ⟨nx, D.rt, D.bk, D.ct⟩) (g := XG X (.Tuple elts kk tpos)) (tb := fun D σ H => XB X body D.nx ⟨D.rt, D.bk, D.ct⟩ σ H) hl Pv h0 hq
    (fun i x y T σ H hx hy hp hT => hs i x y T σ H _ hx hy hp (Kp.new hT) (.inl (.inl upd_same))) hd
/-! ## zip of a list and a tuple -/
/-- a list at a and a tuple at b as each turn finds them -/
def ItzM (K : PySem.W.Frag) (a b : Addr) : It where
  go := fun i H => ∃ xs ys x y, (SqL K H a xs ∧ xs[i]? = some x) ∧ SqT K H b ys ∧ ys[i]? = some y
  yld := fun i H v H' => ∃ T x y, (v = .ref T ∧ H' = upd H T (.tup [x, y]) ∧ H T = none) ∧ (∀ l, SqL K H a l → l[i]? = some x) ∧ ∀ t, SqT K H b t → t[i]? = some y
  stop := fun i H => ∃ xs ys, SqL K H a xs ∧ SqT K H b ys ∧ min xs.length ys.length = i
def tnM (z TI TO i1 i2 a b : Addr) (i : Nat) (h : Heap) : Prop :=
  IsZip h z TI TO .none ∧ IsTupOf2 h TI (.ref i1) (.ref i2) ∧ (∃ a1 a2, IsTupOf2 h TO a1 a2) ∧ h.IsListIter i1 a i ∧ h.IsTupleIter i2 b i
theorem turn_zipM {P : Program} {w : World} {K : PySem.W.Frag} {elts : List Expr} {kk : Nat} {tpos : Pos} {a b z TI TO i1 i2 : Addr} (S : ZipSep2 z TI TO i1 i2 [i1, a] [i2, b]) (n1 : a ≠ i1) (n2 : b ≠ i2) :
    Turn P w K (.Tuple elts kk tpos) (ItzM K a b) [z, TI, TO, i1, i2] z (tnM z TI TO i1 i2 a b) where
  mem := .head _
  obj := by
    rintro i h ⟨q1, q2, ⟨u1, u2, q3⟩, ⟨o1, e1, k1, d1⟩, o2, e2, k2, d2⟩ c hc
    simp only [List.mem_cons, List.not_mem_nil, or_false] at hc
    rcases hc with rfl | rfl | rfl | rfl | rfl
    · exact ⟨_, q1, nofun⟩
    · exact ⟨_, q2, nofun⟩
    · exact ⟨_, q3, nofun⟩
    · exact ⟨_, e1, fun v q => nomatch d1.symm.trans q⟩
    · exact ⟨_, e2, fun v q => nomatch d2.symm.trans q⟩
  keep := by
    rintro i h h' ⟨q1, q2, ⟨u1, u2, q3⟩, q4, q5⟩ k
    exact ⟨k _ (by simp) _ q1, k _ (by simp) _ q2, ⟨u1, u2, k _ (by simp) _ q3⟩, q4.at (k _ (by simp)), q5.at (k _ (by simp))⟩
  item := by
    rintro X rfl rfl rfl hc i pins s σ H E I hf st ⟨xs, ys, x, y, ⟨lx, ex⟩, ty, ey⟩
    have ⟨its, rv, p, _⟩ := I.list lx
    have ⟨its2, rv2, p2, _⟩ := I.tuple ty
    have ⟨u, hu, ru⟩ := rv.get ex
    have ⟨u2, hu2, ru2⟩ := rv2.get ey
    have hh := I.ok.hd hc
    have D1 := Draws.list (prog := X.prog) (w := X.w) (A := X.A.in1) hh i1 a n1 its.toArray
    have D2 := Draws.tuple (prog := X.prog) (w := X.w) (A := X.A.in1) hh i2 b n2 its2.toArray
    have W := GoesN.zip2 (elts := elts) (x1 := kk) (pos := tpos) S D1 D2
    have b1 : i < its.length := (List.getElem?_eq_some_iff.1 hu).1
    have b2 : i < its2.length := (List.getElem?_eq_some_iff.1 hu2).1
    refine W.goes i s (fun v s2 => ∃ x H', Inv X pins σ H' s2 ∧ RelV x v ∧ (ItzM X.K a b).yld i H x H' ∧ tnM z TI TO i1 i2 a b (i + 1) s2.heap ∧ ∀ b ∈ [z, TI, TO, i1, i2], H' b = none) E (by simp; omega) ⟨st.1, st.2.1, st.2.2.1, ⟨st.2.2.2.1, p.isList⟩, st.2.2.2.2, p2⟩ ?_
    rintro v h' tk ⟨T, v1, v2, rfl, hn, hv1, hv2, hT⟩ ⟨r1, r2, r3, ⟨r4, _⟩, r5, _⟩ hk _
    have c1 : v1 = u := by simpa [hu] using hv1.symm
    have c2 : v2 = u2 := by simpa [hu2] using hv2.symm
    subst c1 c2
    have new : ObjOk X.prog X.w (upd H T (.tup [x, y])) h' T (.tup [x, y]) := ⟨by show 2 ≤ sizeLine; decide, [v1, v2], .cons ru (.cons ru2 .nil), hT⟩
    refine ⟨.ref T, _, I.turnedNew (t' := tk) (ch := [z, TO, i1, i2]) (fun c o hb q => hk c o hb q) (fun c hm => hf c ?_) hn new, rfl, ⟨T, x, y, ⟨rfl, rfl, I.hok.fresh hn⟩, fun l hl => ?_, fun t ht => ?_⟩, ⟨r1, r2, r3, r4, r5⟩, fun c hm => ?_⟩
    · simp only [List.mem_cons, List.not_mem_nil, or_false] at hm ⊢
      rcases hm with e | e | e | e <;> simp [e]
    · exact I.list_inj hl lx ▸ ex
    · exact I.tuple_inj ht ty ▸ ey
    · have hl : c < s.heap.objs.size := by
        obtain ⟨q1, q2, ⟨_, _, q3⟩, ⟨_, q4, _⟩, _, q5, _⟩ := st
        simp only [List.mem_cons, List.not_mem_nil, or_false] at hm
        rcases hm with rfl | rfl | rfl | rfl | rfl
        · exact Heap.lt_size q1
        · exact Heap.lt_size q2
        · exact Heap.lt_size q3
        · exact Heap.lt_size q4
        · exact Heap.lt_size q5
      exact (upd_ne (Nat.ne_of_lt (Nat.lt_of_lt_of_le hl hn))).trans (hf c hm).1
  done := by
    rintro X rfl rfl rfl hc i pins s σ H E I hf st ⟨xs, ys, lx, ty, e⟩
    have ⟨its, rv, p, _⟩ := I.list lx
    have ⟨its2, rv2, p2, _⟩ := I.tuple ty
    have hh := I.ok.hd hc
    have D1 := Draws.list (prog := X.prog) (w := X.w) (A := X.A.in1) hh i1 a n1 its.toArray
    have D2 := Draws.tuple (prog := X.prog) (w := X.w) (A := X.A.in1) hh i2 b n2 its2.toArray
    have W := GoesN.zip2 (elts := elts) (x1 := kk) (pos := tpos) S D1 D2
    have hi : min its.toArray.size its2.toArray.size = i := by
      have l1 := rv.length
      have l2 := rv2.length
      simp; omega
    refine W.stops s (fun s1 => Inv X pins σ H s1) E (by rw [hi]; exact ⟨st.1, st.2.1, st.2.2.1, ⟨st.2.2.2.1, p.isList⟩, st.2.2.2.2, p2⟩) ?_
    intro h' tk hk _
    refine I.turnedL (t' := tk) (ch := [z, TO, i1, i2]) (fun c o hb q => hk c o hb q) fun c hm => hf c ?_
    simp only [List.mem_cons, List.not_mem_nil, or_false] at hm ⊢
    rcases hm with e | e | e | e <;> simp [e]
  self := fun A i s Q E st h => wpAny_pyIter_zip st.1 h
def iZipM (K : PySem.W.Frag) (ta : TA) : TI := fun σ H R => ta σ H fun vs H1 => ∃ a b xs ys, vs = [.ref a, .ref b] ∧ (SqL K H1 a xs ∧ SqT K H1 b ys) ∧ R (ItzM K a b) H1
theorem pi_zipM {X : Cx} {e e2 : Expr} {ta : TA} {p pos tpos : Pos} {elts : List Expr} {kk : Nat} (hg : Gl X "zip") (hm : X.mg "zip" = none) (ha : PA X [e, e2] ta)
    (hs : starEach [e, e2] X.env = (false, eval e X.env) :: starEach [e2] X.env) (hpl : (backTo pos (starEach [e2] X.env)).any (·.1) = false) :
    PI X (.Tuple elts kk tpos) (.Call (.Name "zip" p) [e, e2] [] pos) (iZipM X.K ta) where
  run := by
    intro pins s σ H R I h
    refine PyProof.Rows.Call_ (ld_blt I hg hm PyProof.Rows.boot_zip (PyProof.Rows.callWith_type1 (thn (ha.run pos pins s σ H _ I h) ?_) hs hpl))
    rintro us s1 ⟨vs, H1, I1, r1, a, b, xs, ys, rfl, ⟨lx, ty⟩, q⟩
    match us, r1 with
    | [_, _], .cons r (.cons r' .nil) =>
      cases r
      cases r'
      have ⟨its, _, p1, _⟩ := I1.list lx
      have ⟨its2, _, p2, _⟩ := I1.tuple ty
      have la : a < s1.heap.objs.size := p1.lt
      have lb : b < s1.heap.objs.size := have ⟨_, e, _⟩ := p2; Heap.lt_size e
      refine zip_begins2 (begins_list a its.toArray) (begins_tuple b its2.toArray) p1.isList p2 fun h' q1 q2 q3 q4 q5 _ hk => wpAny_pyIter_zip q1 ?_
      refine ⟨_, [s1.heap.objs.size + 4, s1.heap.objs.size + 2, s1.heap.objs.size + 3, s1.heap.objs.size, s1.heap.objs.size + 1], _, _, H1, rfl, I1.kept (t' := s1.toks) hk, turn_zipM (a := a) (b := b) (zip_sep2 (by simpa using la) (by simpa using lb)) (Nat.ne_of_lt la) (Nat.ne_of_lt (Nat.lt_succ_of_lt lb)), ⟨q1, q2, ⟨_, _, q3⟩, ⟨_, q4, rfl, rfl⟩, ⟨_, q5, rfl, rfl⟩⟩, fun c hm => ?_, q⟩
      have hl : s1.heap.objs.size ≤ c := by
        simp only [List.mem_cons, List.not_mem_nil, or_false] at hm
        rcases hm with rfl | rfl | rfl | rfl | rfl <;> first | exact Nat.le_refl _ | exact Nat.le_add_right _ _
      exact I1.fpOk hl (I1.hok.fresh hl)
theorem for_zipM {K : PySem.W.Frag} {a b : Addr} {xs ys : List V} {g : TG} {tb : TS} {D : Ends} {σ : L2.St} {H : Hp} (hl : xs.length = ys.length) (Pv : Nat → L2.St → Hp → Prop) (h0 : Pv 0 σ H) (hq : ∀ i σ H, Pv i σ H → SqL K H a xs ∧ SqT K H b ys)
    (hs : ∀ (i : Nat) (x y : V) (T : Addr) (σ : L2.St) (H : Hp), xs[i]? = some x → ys[i]? = some y → Pv i σ H → H T = none → g (.ref T) σ (upd H T (.tup [x, y])) fun σ2 H2 => tb ⟨Pv (i + 1), D.rt, D.nx, Pv (i + 1)⟩ σ2 H2) (hd : ∀ σ H, Pv xs.length σ H → D.nx σ H) :
    ∃ W : Nat → Nat → L2.St → Hp → Prop, (∃ m, W 0 m σ H) ∧ ∀ i m σ H, W i m σ H →
      ((ItzM K a b).stop i H ∧ D.nx σ H) ∨ ((ItzM K a b).go i H ∧ ∃ N : L2.St → Hp → Prop, (∀ σ' H', N σ' H' → ∃ m', m' < m ∧ W (i + 1) m' σ' H') ∧ ∀ v H', (ItzM K a b).yld i H v H' → g v σ H' fun σ2 H2 => tb { D with nx := N, ct := N, bk := D.nx } σ2 H2) := by
  refine ⟨fun i m σ H => i ≤ xs.length ∧ m + i = xs.length ∧ Pv i σ H, ⟨_, Nat.zero_le _, rfl, h0⟩, ?_⟩
  rintro i m σ H ⟨hi, hm, p⟩
  have ⟨qx, qy⟩ := hq i σ H p
  rcases Nat.lt_or_ge i xs.length with lt | ge
  · have l2 : i < ys.length := hl ▸ lt
    have ex := List.getElem?_eq_getElem lt
    have ey := List.getElem?_eq_getElem l2
    refine .inr ⟨⟨xs, ys, _, _, ⟨qx, ex⟩, qy, ey⟩, Pv (i + 1), fun σ' H' p' => ⟨m - 1, by omega, lt, by omega, p'⟩, ?_⟩
    rintro v H' ⟨T, x', y', ⟨rfl, rfl, hT⟩, f1, f2⟩
    exact hs i x' y' T σ H (f1 _ qx) (f2 _ qy) p hT
  · obtain rfl : i = xs.length := Nat.le_antisymm hi ge
    exact .inl ⟨⟨xs, ys, qx, qy, by omega⟩, hd σ H p⟩
/-- for a, b in zip of a list and a tuple of one length -/
theorem xs_forZM {elts : List Expr} {kk : Nat} {tpos : Pos} (C : Ctx X sc N Vs Ls G k) (hg : Mem G "zip") (hm : X.mg "zip" = none) (h : XA X [a, b] σ H fun vs H1 => ∃ p q xs ys, vs = [.ref p, .ref q] ∧ SqL X.K H1 p xs ∧ SqT X.K H1 q ys ∧ xs.length = ys.length ∧ ∃ Pv : Nat → St → Hp → Prop, Pv 0 σ H1 ∧
    (∀ i σ' H', Pv i σ' H' → SqL X.K H' p xs ∧ SqT X.K H' q ys) ∧ (∀ i x y T σ' H' H2, xs[i]? = some x → ys[i]? = some y → Pv i σ' H' → Kp [] H' H2 → SqT X.K H2 T [x, y] → XG X (.Tuple elts kk tpos) (.ref T) σ' H2 fun σ3 H3 => XB X body (Pv (i + 1)) ⟨D.rt, nx, Pv (i + 1)⟩ σ3 H3) ∧ ∀ σ' H', Pv xs.length σ' H' → nx σ' H')
    (hs : starEach [a, b] X.env = (false, eval a X.env) :: starEach [b] X.env := by rfl) (hpl : (backTo p2 (starEach [b] X.env)).any (·.1) = false := by rfl) (hfs : ∀ x, foldedSetIterable (.Call (.Name "zip" p1) [a, b] [] p2) X.env x = pure x := by intro _; rfl) : XS X (.For (.Tuple elts kk tpos) (.Call (.Name "zip" p1) [a, b] [] p2) body [] pos) nx D σ H := by
  refine ⟨_, ps_for C.po C.calm (pi_zipM (C.gl hg) hm XA.pa hs hpl) XG.pg XB.ps hfs, ?_⟩
  refine XA.mono h fun vs H1 ⟨p, q, xs, ys, e, hx, hy, hl, Pv, h0, hq, hs, hd⟩ => ⟨p, q, xs, ys, e, ⟨hx, hy⟩, ?_⟩
  exact for_zipM (K := X.K) (a := p) (b := q) (xs := xs) (ys := ys) (D := ⟨nx, D.rt, D.bk, D.ct⟩) (g := XG X (.Tuple elts kk tpos)) (tb := fun D σ H => XB X body D.nx ⟨D.rt, D.bk, D.ct⟩ σ H) hl Pv h0 hq
    (fun i x y T σ H hx hy hp hT => hs i x y T σ H _ hx hy hp (Kp.new hT) (.inl (.inl upd_same))) hd
/-- while: a word by a measure -/
theorem xs_while {c : Expr} (C : Ctx X sc N Vs Ls G k) (Pv : Nat → St → Hp → Prop) (h0 : ∃ m, Pv m σ H) (hs : ∀ m σ' H', Pv m σ' H' → XT X c σ' H' fun b H1 => if b = true then XB X body (fun σ2 H2 => ∃ m', m' < m ∧ Pv m' σ2 H2) ⟨D.rt, nx, fun σ2 H2 => ∃ m', m' < m ∧ Pv m' σ2 H2⟩ σ' H1 else nx σ' H1) :
    XS X (.While c body [] pos) nx D σ H := by
  refine ⟨_, ps_while C.po XT.pt XB.ps, Pv, h0, fun m σ' H' p => XT.mono (hs m σ' H' p) fun b H1 q => ?_⟩
  cases b with
  | true => exact ⟨_, fun _ _ z => z, q⟩
  | false => exact q
/-- a, b = a pair -/
theorem xs_asg {tg : Expr} (h : XE X e σ H fun v H1 => XG X tg v σ H1 nx) (hs : swapsWithSole [tg] e pos.line X.env = pure false := by rfl) (hw : swappedStores [tg] e X.env = pure none := by rfl) (h1 : (assignEach [tg] X.env).map (·.2) = [assign tg X.env] := by rfl) : XS X (.Assign [tg] e pos) nx D σ H :=
  ⟨_, ps_asg XE.pe XG.pg hs hw h1, h⟩
theorem xgs_nil {Q : St → Hp → Prop} (h : Q σ H) : XGs X [] [] σ H Q := ⟨_, pgs_nil, rfl, h⟩
theorem xgs_cons {v : V} {vs : List V} {Q : St → Hp → Prop} (h : XG X e v σ H fun σ' H' => XGs X es vs σ' H' Q) (hs : (assignEach (e :: es) X.env).map (·.2) = assign e X.env :: (assignEach es X.env).map (·.2) := by rfl) : XGs X (e :: es) (v :: vs) σ H Q :=
  ⟨_, pgs_cons XG.pg XGs.pgs hs, v, vs, rfl, h⟩
theorem sw_par {env : Env} {x y : Str} {a b : Expr} {px py pt pt2 : Pos} {kt k2 : Nat} (hb : env.blockKind = .function) (hx : env.kindOf x = some .local) (hy : env.kindOf y = some .local) (hxy : ([x, y].eraseDups.length != [x, y].length) = false) (hl : (py.line == px.line) = true)
    (ha : ∀ z p, a ≠ .Starred z p) (hb' : ∀ z p, b ≠ .Starred z p) (hf : [a, b].all (foldedForSure 8) = false) (hc : [a, b].all (constantsAlone 8) = false) : swappedStores [.Tuple [.Name x px, .Name y py] kt pt] (.Tuple [a, b] k2 pt2) env = pure (some [x, y]) := by
  have e1 : (some NameKind.local == some NameKind.local) = true := by decide
  have e2 : (ScopeKind.function != ScopeKind.function) = false := by decide
  unfold swappedStores
  simp only [hb, hf, hc, e2, List.filterMap_cons, List.filterMap_nil, List.head?_cons, Option.map_some, Option.getD_some, Expr.pos, hx, hy, hl, e1, beq_self_eq_true, Bool.and_self, if_true, hxy]
  rw [if_neg (by simp)]
  split
  · rename_i h
    exfalso
    simp only [List.any_cons, List.any_nil, Bool.or_false, Bool.or_eq_true] at h
    cases h
  · rw [if_neg (by simp), if_neg Bool.false_ne_true, if_neg Bool.false_ne_true]
/-- a, b = x, y: plain locals -/
theorem xs_par {x y : Str} {px py pt pt2 : Pos} {kt k2 : Nat} (C : Ctx X sc N Vs Ls G k) (hx : Mem N x) (hy : Mem N y) (hxl : sc.names.lookup x = some .local) (hyl : sc.names.lookup y = some .local) (hxy : ([x, y].eraseDups.length != [x, y].length) = false)
    (h : XE X a σ H fun v H1 => XE X b σ H1 fun u H2 => ∃ σ1 σ2, Put N σ x v σ1 ∧ Put N σ1 y u σ2 ∧ nx σ2 H2) (hl : (py.line == px.line) = true := by rfl) (ha : ∀ z p, a ≠ .Starred z p := by intro _ _ h; cases h) (hb' : ∀ z p, b ≠ .Starred z p := by intro _ _ h; cases h) (hf : [a, b].all (foldedForSure 8) = false := by rfl) (hc : [a, b].all (constantsAlone 8) = false := by rfl)
    (hst : starEach (a :: b :: []) X.env = (false, eval a X.env) :: starEach (b :: []) X.env := by rfl) (hst2 : starEach (b :: []) X.env = (false, eval b X.env) :: starEach [] X.env := by rfl)
    (hs : swapsWithSole [.Tuple [.Name x px, .Name y py] kt pt] (.Tuple [a, b] k2 pt2) pos.line X.env = pure false := by rfl) : XS X (.Assign [.Tuple [.Name x px, .Name y py] kt pt] (.Tuple [a, b] k2 pt2) pos) nx D σ H := by
  obtain ⟨i, hi⟩ := List.getElem?_of_mem hx.mem
  obtain ⟨j, hj⟩ := List.getElem?_of_mem hy.mem
  have hij : i ≠ j := fun e => by
    subst e
    rw [hi] at hj
    cases Option.some.inj hj
    exact absurd hxy (by simp [List.eraseDups_cons])
  have hxl' : X.env.scope.names.lookup x = some .local := by rw [C.esc]; exact hxl
  have hyl' : X.env.scope.names.lookup y = some .local := by rw [C.esc]; exact hyl
  have hb : X.env.blockKind = .function := by unfold Env.blockKind; rw [C.esc, C.knd]; rfl
  refine ⟨_, ps_par (i := i) (j := j) C.calm (by rw [C.hN]; exact C.nd) (by rw [C.hN]; exact hi) (by rw [C.hN]; exact hj) hij hxl' hyl' XA.pa (sw_par hb hxl' hyl' hxy hl ha hb' hf hc) hs, ?_⟩
  refine xa_cons (hs := hst) (XE.mono h fun v H1 h => xa_cons (hs := hst2) (XE.mono h fun u H2 ⟨σ1, σ2, p1, p2, q⟩ => xa_nil ?_))
  refine ⟨v, u, rfl, ?_⟩
  obtain ⟨i', hi', e1⟩ := p1.ix
  obtain ⟨j', hj', e2⟩ := p2.ix
  have ei : i = i' := nd_ix C.nd hi hi'
  have ej : j = j' := nd_ix C.nd hj hj'
  subst ei; subst ej
  show nx ((σ.set i (some v)).set j (some u)) H2
  rw [e1, e2]; exact q
/-- xs[::-1] -/
theorem xe_revL {j : Nat} {p4 : Pos} (h : XE X a σ H fun v H1 => ∃ p xs, v = .ref p ∧ SqL X.K H1 p xs ∧ ∀ r H', Kp [] H1 H' → H1 r = none → H' r = some (.lst xs.reverse) → Q (.ref r) H') : XE X (.Subscript a (.Slice none none (some (.UnaryOp .USub (.Constant (.int 1) j p1) p2)) p3) p4) σ H Q :=
  ⟨_, pe_revL XE.pe, h.mono fun v H1 ⟨p, xs, e, hx, q⟩ => ⟨p, xs, e, hx, new_ q⟩⟩
theorem XS.imp {nx' : St → Hp → Prop} (h : XS X s nx D σ H) (m : ∀ σ H, nx σ H → nx' σ H) : XS X s nx' D σ H := by
  obtain ⟨t, ht, q⟩ := h
  refine ⟨fun D σ H => ∃ nx0, t ⟨nx0, D.rt, D.bk, D.ct⟩ σ H ∧ ∀ σ H, nx0 σ H → D.nx σ H, ⟨fun pins s σ H D I ⟨nx0, q, m⟩ => thn (ht.run pins s σ H _ I q) fun f s1 z => ?_⟩, nx, q, m⟩
  cases f with
  | next => obtain ⟨σ', H', I', z⟩ := z; exact ⟨σ', H', I', m _ _ z⟩
  | brk => exact z
  | cont => exact z
  | ret u => exact z

/-! ## comprehensions -/
def XLC (X : Cx) (elt tg iter : Expr) (ifs : List Expr) (scope : Scope) (σ : St) (H : Hp) (Q : VK) : Prop := ∃ (wi : TI) (g : TG) (tt : TT) (te : TE) (own : List (Str × Nat)), PI X tg iter wi ∧ BlkOk X.N X.env.scope scope own ∧
  (∀ (s : Shared) (H : Hp) (c : Addr) (cl : List (Str × Addr)) (fp : List Addr), PG (X.blk s H scope (compEnvC scope cl c X.env) fp) tg g) ∧ (∀ (s : Shared) (H : Hp) (c : Addr) (cl : List (Str × Addr)) (fp : List Addr), PTs (X.blk s H scope (compEnvC scope cl c X.env) fp) ifs tt) ∧
  (∀ (s : Shared) (H : Hp) (c : Addr) (cl : List (Str × Addr)) (fp : List Addr), PE (X.blk s H scope (compEnvC scope cl c X.env) fp) elt te) ∧ (∀ σ H R R', (∀ J H, R J H → R' J H) → wi σ H R → wi σ H R') ∧ tLc wi g tt te (own.map (·.2)) σ H Q
variable {elt : Expr} {ifs : List Expr} {scope : Scope}
theorem tLc_mono {wi : TI} {g : TG} {tt : TT} {te : TE} {vs : List Nat} {Q Q' : VK} (hw : ∀ σ H R R', (∀ J H, R J H → R' J H) → wi σ H R → wi σ H R') (h : tLc wi g tt te vs σ H Q) (m : ∀ v H, Q v H → Q' v H) : tLc wi g tt te vs σ H Q' := by
  refine hw _ _ _ _ (fun J H1 h D hD => ?_) h
  obtain ⟨W, h0, h⟩ := h D hD
  refine ⟨W, h0, fun i n H w => ?_⟩
  rcases h i n H w with ⟨a, b⟩ | b
  · exact .inl ⟨a, m _ _ b⟩
  · exact .inr b
theorem xe_lc (C : Ctx X sc N Vs Ls G k) (h : XLC X elt tg iter ifs scope σ H Q) (hs : ∀ x, foldedSetIterable iter X.env x = pure x := by intro _; rfl) : XE X (.ListComp elt [⟨tg, iter, ifs, 0⟩] scope pos) σ H Q := by
  obtain ⟨wi, g, tt, te, own, h1, h2, h3, h4, h5, h6, q⟩ := h
  exact ⟨_, pe_lc C.calm (by rw [C.hN]; exact C.nd) h1 h2 h3 h4 h5 hs, q⟩
/-- y = [..], y a plain local -/
theorem xs_setLc {y : Str} (C : Ctx X sc N Vs Ls G k) (hm : Mem N y) (hyl : sc.names.lookup y = some .local) (hl : (p1.line == pos.line) = true) (ha : (scope.names.any fun (n, k) => n == y && (k == .local || k == .cell)) = false)
    (h : XLC X elt tg iter ifs scope σ H fun v H1 => ∃ σ', Put N σ y v σ' ∧ nx σ' H1) (hs : ∀ x, foldedSetIterable iter X.env x = pure x := by intro _; rfl) : XS X (.Assign [.Name y p1] (.ListComp elt [⟨tg, iter, ifs, 0⟩] scope pos) p2) nx D σ H := by
  obtain ⟨wi, g, tt, te, own, h1, h2, h3, h4, h5, h6, q⟩ := h
  obtain ⟨i, hi⟩ := List.getElem?_of_mem hm.mem
  have hyl' : X.env.scope.names.lookup y = some .local := by rw [C.esc]; exact hyl
  refine XS.imp (nx := fun σ1 H1 => ∃ v, σ1 = σ.set i (some v) ∧ ∃ σ', Put N σ y v σ' ∧ nx σ' H1) ⟨_, ps_setLc (i := i) C.calm (by rw [C.hN]; exact C.nd) (by rw [C.hN]; exact hi) hyl' (sw_true (by rw [C.esc]; exact C.knd) hyl' hl ha) h1 h2 h3 h4 h5 hs, ?_⟩ ?_
  · exact tLc_mono h6 q fun v H1 z => ⟨v, rfl, z⟩
  · rintro σ1 H1 ⟨v, rfl, σ', hp, q⟩
    obtain ⟨j, hj, e⟩ := hp.ix
    have ij : i = j := nd_ix C.nd hi hj
    subst ij
    rw [e]; exact q
/-- y = [..], y a name that a comprehension reads (a cell) -/
theorem blk_ctx {Vs' G' : List Str} {s : Shared} {H : Hp} {c : Addr} {cl : List (Str × Addr)} {fp : List Addr} (C : Ctx X sc N Vs Ls G k) (h : okC (relS scope sc) Vs' [] G' = true) (hk : scope.kind = .function) :
    Ctx (X.blk s H scope (compEnvC scope cl c X.env) fp) (relS scope sc) N Vs' [] G' k :=
  ⟨C.hN, C.nd, by rw [← C.esc]; rfl, h, C.calm, fun _ m => (nomatch m), rfl, hk, C.room⟩

/-- what one turn of a comprehension asks: the target's slot, the test (one or none), the element -/
def XEC (X : Cx) (sc scope : Scope) (N Vs' G' : List Str) (k : Nat) (elt : Expr) : TE := fun σ H Q => ∀ (s0 : Shared) (H0 : Hp) (c : Addr) (cl : List (Str × Addr)) (fp : List Addr), Ctx (X.blk s0 H0 scope (compEnvC scope cl c X.env) fp) (relS scope sc) N Vs' [] G' k → XE (X.blk s0 H0 scope (compEnvC scope cl c X.env) fp) elt σ H Q
def XTC (X : Cx) (sc scope : Scope) (N Vs' G' : List Str) (k : Nat) (elt : Expr) : TT := fun σ H Q => ∀ (s0 : Shared) (H0 : Hp) (c : Addr) (cl : List (Str × Addr)) (fp : List Addr), Ctx (X.blk s0 H0 scope (compEnvC scope cl c X.env) fp) (relS scope sc) N Vs' [] G' k → XT (X.blk s0 H0 scope (compEnvC scope cl c X.env) fp) elt σ H Q
def XTurn (X : Cx) (sc scope : Scope) (N Vs' G' : List Str) (k : Nat) (nm : Str) (ifs : List Expr) (elt : Expr) (σ : St) (y : V) (H : Hp) (L : Addr) (Nx : Hp → Prop) : Prop :=
  ∃ σ', Put N σ nm y σ' ∧ 
    match ifs with
    | [] => XEC X sc scope N Vs' G' k elt σ' H fun z H4 => ∃ acc, H4 L = some (.lst acc) ∧ acc.length < sizeLine ∧ ∀ H5, Kp [L] H4 H5 → H5 L = some (.lst (acc ++ [z])) → Nx H5
    | c' :: _ => XTC X sc scope N Vs' G' k c' σ' H fun b H3 => if b = true then XEC X sc scope N Vs' G' k elt σ' H3 (fun z H4 => ∃ acc, H4 L = some (.lst acc) ∧ acc.length < sizeLine ∧ ∀ H5, Kp [L] H4 H5 → H5 L = some (.lst (acc ++ [z])) → Nx H5) else Nx H3
def teC (X : Cx) (scope : Scope) (elt : Expr) : TE := fun σ H Q => ∀ (s0 : Shared) (H0 : Hp) (c : Addr) (cl : List (Str × Addr)) (fp : List Addr), XE (X.blk s0 H0 scope (compEnvC scope cl c X.env) fp) elt σ H Q
def ttC (X : Cx) (scope : Scope) (ifs : List Expr) : TT := fun σ H Q => match ifs with
  | [] => Q true H
  | c' :: _ => ∀ (s0 : Shared) (H0 : Hp) (c : Addr) (cl : List (Str × Addr)) (fp : List Addr), XT (X.blk s0 H0 scope (compEnvC scope cl c X.env) fp) c' σ H Q
theorem put_wipe {nm : Str} {y : V} {i : Nat} (hN : N[i]? = some nm) (nd : N.Nodup) (hp : Put N σ nm y σ') : (wipe σ [i]).set i (some y) = σ' ∧ wipe σ' [i] = wipe σ [i] := by
  obtain ⟨j, hj, e⟩ := hp.ix
  have ij : i = j := nd_ix nd hN hj
  subst ij
  subst e
  exact ⟨by show (σ.set i none).set i (some y) = _; rw [List.set_set], by show (σ.set i (some y)).set i none = σ.set i none; rw [List.set_set]⟩
section
variable {nm : Str} {i : Nat} {Vs' G' : List Str}
theorem turn_ok (C : Ctx X sc N Vs Ls G k) (hN : N[i]? = some nm) (hV : okC (relS scope sc) Vs' [] G' = true) (hk : scope.kind = .function) (hif : ifs.length ≤ 1) {y : V} {L : Addr} {Nx : Hp → Prop} (h : XTurn X sc scope N Vs' G' k nm ifs elt σ y H L Nx) :
    gName i y (wipe σ [i]) H fun σ2 H2 => wipe σ2 [i] = wipe σ [i] ∧ ttC X scope ifs σ2 H2 fun b H3 => if b = true then teC X scope elt σ2 H3 (fun y H4 => ∃ acc, H4 L = some (.lst acc) ∧ acc.length < sizeLine ∧ Nx (upd H4 L (.lst (acc ++ [y])))) else Nx H3 := by
  obtain ⟨σ', hp, h⟩ := h
  obtain ⟨e1, e2⟩ := put_wipe hN C.nd hp
  show wipe ((wipe σ [i]).set i (some y)) [i] = wipe σ [i] ∧ ttC X scope ifs ((wipe σ [i]).set i (some y)) H _
  rw [e1]
  refine ⟨e2, ?_⟩
  have fin : ∀ H3, XEC X sc scope N Vs' G' k elt σ' H3 (fun z H4 => ∃ acc, H4 L = some (.lst acc) ∧ acc.length < sizeLine ∧ ∀ H5, Kp [L] H4 H5 → H5 L = some (.lst (acc ++ [z])) → Nx H5) →
      teC X scope elt σ' H3 (fun y H4 => ∃ acc, H4 L = some (.lst acc) ∧ acc.length < sizeLine ∧ Nx (upd H4 L (.lst (acc ++ [y])))) := fun H3 h s0 H0 c cl fp =>
    (h s0 H0 c cl fp (blk_ctx C hV hk)).mono fun v H4 ⟨acc, h1, h2, h3⟩ => ⟨acc, h1, h2, h3 _ (Kp.set h1 rfl) upd_same⟩
  cases ifs with
  | nil =>
    exact iteT (B := Nx H) (fin H h)
  | cons c' r =>
    intro s0 H0 c cl fp
    refine (h s0 H0 c cl fp (blk_ctx C hV hk)).mono fun b H3 q => ?_
    cases b with
    | false => exact q
    | true => exact fin H3 q
theorem pg_blk (C : Ctx X sc N Vs Ls G k) (hN : N[i]? = some nm) (hl : (relS scope sc).names.lookup nm = some .local) {s0 : Shared} {H0 : Hp} {c : Addr} {cl : List (Str × Addr)} {fp : List Addr} : PG (X.blk s0 H0 scope (compEnvC scope cl c X.env) fp) (.Name nm p1) (gName i) := by
  have e : (compEnvC scope cl c X.env).scope = relS scope sc := by rw [← C.esc]; rfl
  refine pg_name (X := X.blk s0 H0 scope (compEnvC scope cl c X.env) fp) (i := i) (by show X.N.Nodup; rw [C.hN]; exact C.nd) (by show X.N[i]? = _; rw [C.hN]; exact hN) (.inl ?_) (.inr ?_)
  · show (compEnvC scope cl c X.env).scope.names.lookup nm = _
    rw [e]; exact hl
  · show (compEnvC scope cl c X.env).scope.names.lookup nm = _
    rw [e]; exact hl
theorem pts_blk (hif : ifs.length ≤ 1) {s0 : Shared} {H0 : Hp} {c : Addr} {cl : List (Str × Addr)} {fp : List Addr} : PTs (X.blk s0 H0 scope (compEnvC scope cl c X.env) fp) ifs (ttC X scope ifs) := by
  cases ifs with
  | nil => exact pts_nil
  | cons c' r =>
    cases r with
    | nil => exact pts_one ⟨fun pins s σ H Q I h => (XT.pt).run pins s σ H Q I (h s0 H0 c cl fp)⟩
    | cons _ _ => simp at hif
theorem pe_blk {s0 : Shared} {H0 : Hp} {c : Addr} {cl : List (Str × Addr)} {fp : List Addr} : PE (X.blk s0 H0 scope (compEnvC scope cl c X.env) fp) elt (teC X scope elt) := ⟨fun pins s σ H Q I h => (XE.pe).run pins s σ H Q I (h s0 H0 c cl fp)⟩
/-- the closed facts of a comprehension: its target's name and slot, what it reads -/
structure LcOk (sc scope : Scope) (N Vs' G' : List Str) (nm : Str) (i : Nat) (ifs : List Expr) : Prop where
  hN : N[i]? = some nm
  blk : blkC N sc scope [(nm, i)] = true
  rd : okC (relS scope sc) Vs' [] G' = true
  knd : scope.kind = .function
  own : (relS scope sc).names.lookup nm = some .local
  one : ifs.length ≤ 1
theorem xlc_R1 (C : Ctx X sc N Vs Ls G k) (O : LcOk sc scope N Vs' G' nm i ifs) (hg : Mem G "range") (hm : X.mg "range" = none)
    (h : XA X [a] σ H fun vs H1 => ∃ j : Int, vs = [.int j] ∧ -(2 ^ 62) ≤ j ∧ j < 2 ^ 62 ∧ ∀ L H2, Kp [] H1 H2 → H1 L = none → H2 L = some (.lst []) → ∃ Pv : Nat → Hp → Prop, Pv 0 H2 ∧
      (∀ t H', t < j.toNat → Pv t H' → XTurn X sc scope N Vs' G' k nm ifs elt σ (.int t) H' L (Pv (t + 1))) ∧ ∀ H', Pv j.toNat H' → Q (.ref L) H')
    (hst : starEach [a] X.env = [(false, eval a X.env)] := by rfl) : XLC X elt (.Name nm p1) (.Call (.Name "range" p2) [a] [] pos) ifs scope σ H Q := by
  refine ⟨_, gName i, ttC X scope ifs, teC X scope elt, [(nm, i)], pi_range1 (C.gl hg) hm XA.pa hst, blkOk_by (by rw [C.hN, C.esc]; exact O.blk), fun _ _ _ _ _ => pg_blk C O.hN O.own, fun _ _ _ _ _ => pts_blk O.one, fun _ _ _ _ _ => pe_blk,
    fun σ H R R' m h => h.mono fun vs H1 ⟨j, e, h1, h2, q⟩ => ⟨j, e, h1, h2, m _ _ q⟩, ?_⟩
  refine h.mono fun vs H1 ⟨j, e, h1, h2, h⟩ => ⟨j, e, h1, h2, fun L hL => ?_⟩
  obtain ⟨Pv, h0, hs, hd⟩ := h L _ (Kp.new hL) hL upd_same
  refine lc_range (lo := 0) (n := j.toNat) Pv h0 (fun t H' ht p => ?_) hd
  rw [Int.zero_add]
  exact turn_ok C O.hN O.rd O.knd O.one (hs t H' ht p)
theorem xlc_L (C : Ctx X sc N Vs Ls G k) (O : LcOk sc scope N Vs' G' nm i ifs)
    (h : XE X iter σ H fun v H1 => ∃ a xs, v = .ref a ∧ SqL X.K H1 a xs ∧ ∀ L H2, Kp [] H1 H2 → H1 L = none → H2 L = some (.lst []) → ∃ Pv : Nat → Hp → Prop, Pv 0 H2 ∧ (∀ t H', t ≤ xs.length → Pv t H' → SqL X.K H' a xs) ∧
      (∀ t y H', xs[t]? = some y → Pv t H' → XTurn X sc scope N Vs' G' k nm ifs elt σ y H' L (Pv (t + 1))) ∧ ∀ H', Pv xs.length H' → Q (.ref L) H') : XLC X elt (.Name nm p1) iter ifs scope σ H Q := by
  refine ⟨_, gName i, ttC X scope ifs, teC X scope elt, [(nm, i)], pi_list XE.pe, blkOk_by (by rw [C.hN, C.esc]; exact O.blk), fun _ _ _ _ _ => pg_blk C O.hN O.own, fun _ _ _ _ _ => pts_blk O.one, fun _ _ _ _ _ => pe_blk,
    fun σ H R R' m h => h.mono fun v H1 ⟨a, e, h1, q⟩ => ⟨a, e, h1, m _ _ q⟩, ?_⟩
  refine h.mono fun v H1 ⟨a, xs, e, hx, h⟩ => ⟨a, e, ⟨xs, hx⟩, fun L hL => ?_⟩
  obtain ⟨Pv, h0, hl, hs, hd⟩ := h L _ (Kp.new hL) hL upd_same
  exact lc_list (K := X.K) (a := a) (xs := xs) Pv h0 hl (fun t y H' ht p => turn_ok C O.hN O.rd O.knd O.one (hs t y H' ht p)) hd
end

/-! ## a def and its body -/
def st0 : List Str → List V → St
  | [], _ => []
  | _ :: N, v :: vs => some v :: st0 N vs
  | _ :: N, [] => none :: st0 N []
theorem st0_nil : ∀ N : List Str, st0 N [] = List.replicate N.length none
  | [] => rfl
  | _ :: N => by show none :: st0 N [] = _; rw [st0_nil N]; rfl
theorem start_eq : ∀ (N : List Str) (vs : List V), vs.length ≤ N.length → start N vs = st0 N vs
  | [], [], _ => rfl
  | [], _ :: _, h => by simp at h
  | x :: N, [], _ => by rw [st0_nil]; rfl
  | x :: N, v :: vs, h => by
    show some v :: (vs.map some ++ List.replicate (N.length + 1 - (vs.length + 1)) none) = some v :: st0 N vs
    rw [← start_eq N vs (by simpa using h), Nat.add_sub_add_right]; rfl
/-- where a def stands -/
structure DefAt (K : PySem.W.Frag) (mg : Str → Option Value) (x qual : Str) (st : Stmt) (ps : List Str) : Prop where
  ex : ∃ f fd, Fun K x qual st f fd ∧ mg x = some (.ref f) ∧ Binds K fd ps []
end
section
variable {P : Program} {w : World} {K : PySem.W.Frag} {mg : Str → Option Value} {base : Heap}
theorem fnOk_by {x qual : Str} {st : Stmt} {f : Addr} {fd : FuncData} {N Vs ps G : List Str} {k : Nat} {sp : Sp} (F : Fun K x qual st f fd) (S : FnScope N ps (defScope st)) (ok : okC (defScope st) Vs Vs G = true) (len : ∀ vs H Q E, sp vs H Q E → vs.length = ps.length)
    (hbody : ∀ X : Cx, X.prog = P → X.w = w → X.K = K → X.mg = mg → X.base = base → Ctx X (defScope st) N Vs Vs G k → ∀ (H : Hp) (vs : List V) (Q : VK) (E : XK), sp vs H Q E → XB X (defBody st) (fun _ H' => Q .non H') ⟨Q, fun _ _ => False, fun _ _ => False⟩ (st0 N vs) H) :
    FnOk P w K mg base CX0 (k + 1) f fd ps sp := by
  refine F.ok S len (fun cdv A outer s H vs Q E hr h => ?_)
  have hl : vs.length ≤ N.length := by
    rw [len vs H Q E h]
    have := S.pre
    rw [← this, List.length_take]; exact Nat.min_le_right _ _
  rw [start_eq N vs hl]
  obtain ⟨t, h1, q⟩ := hbody ((cxOf CX0 P w K mg base N qual (defScope st) f cdv A outer s H E).nox) rfl rfl rfl rfl rfl ⟨rfl, S.nd, rfl, ok, rfl, fun _ _ => rfl, rfl, S.kind, hr⟩ H vs Q E h
  exact ⟨t, h1, q⟩
theorem DefOk.by {x qual : Str} {st : Stmt} {N Vs ps G : List Str} {k : Nat} {sp : Sp} (F : DefAt K mg x qual st ps) (S : FnScope N ps (defScope st)) (ok : okC (defScope st) Vs Vs G = true) (len : ∀ vs H Q E, sp vs H Q E → vs.length = ps.length)
    (hbody : ∀ X : Cx, X.prog = P → X.w = w → X.K = K → X.mg = mg → X.base = base → Ctx X (defScope st) N Vs Vs G k → ∀ (H : Hp) (vs : List V) (Q : VK) (E : XK), sp vs H Q E → XB X (defBody st) (fun _ H' => Q .non H') ⟨Q, fun _ _ => False, fun _ _ => False⟩ (st0 N vs) H) :
    DefOk P w K mg base x ps (k + 1) sp := by
  obtain ⟨f, fd, F, hm, hb⟩ := F.ex
  exact ⟨f, fd, fnOk_by F S ok len hbody, hm, F.kp, hb⟩
/-- a class of the module that is made by its __init__ -/
structure ClsOk (P : Program) (w : World) (K : PySem.W.Frag) (mg : Str → Option Value) (base : Heap) (x : Str) (C : Addr) (ps : List Str) (k : Nat) (sp : Sp) : Prop where
  ex : ∃ f fd, FnOk P w K mg base CX0 k f fd ps sp ∧ mg x = some (.ref C) ∧ Mk K C f ∧ Binds K fd ps []
theorem xe_make {X : Cx} {sc : Scope} {N Vs Ls G : List Str} {k k' : Nat} {x : Str} {C : Addr} {ps : List Str} {sp : Sp} {a : Expr} {es : List Expr} {p1 pos : Pos} {σ : St} {H : Hp} {Q : VK} (Cc : Ctx X sc N Vs Ls G k) (F : ClsOk X.prog X.w X.K X.mg X.base x C ps k' sp) (hg : Mem G x) (hk : k' + 1 ≤ k)
    (h : XA X (a :: es) σ H fun vs H1 => ∀ z dx, H1 z = none → H1 dx = none → dx ≠ z → sp (.ref z :: vs) (upd (upd H1 dx (.own z)) z (.ins C dx [])) (fun v H2 => v = .non ∧ Q (.ref z) H2) E0)
    (hdb : (x == ("__debug__" : Str)) = false := by decide) (he : starEach (a :: es) X.env = (false, eval a X.env) :: starEach es X.env := by rfl) (hpl : (backTo pos (starEach es X.env)).any (·.1) = false := by rfl) : XE X (.Call (.Name x p1) (a :: es) [] pos) σ H Q := by
  obtain ⟨f, fd, F, hm, M, b⟩ := F.ex
  refine ⟨_, pe_make M F (Cc.room.mono hk) (Cc.gl hg) hm b .nil pass0 XA.pa hdb he hpl, ?_⟩
  refine XA.mono h fun vs H1 q z dx h1 h2 h3 => ?_
  rw [List.append_nil]; exact q z dx h1 h2 h3
/-- an instance: its own dict besides -/
theorem Kp.made {H : Hp} {z dx C : Addr} (h1 : H z = none) (h2 : H dx = none) (h3 : dx ≠ z) : Kp [] H (upd (upd H dx (.own z)) z (.ins C dx [])) :=
  (Kp.new h2).tr0 (Kp.new (by rw [upd_ne (Ne.symm h3)]; exact h1))
/-- o.f = v -/
theorem xs_fld {X : Cx} {o value : Expr} {f : Str} {p1 pos : Pos} {σ : St} {H : Hp} {nx : St → Hp → Prop} {D : B3} (h : XE X value σ H fun y H1 => XE X o σ H1 fun z H2 => ∃ a C dx fs, z = .ref a ∧ H2 a = some (.ins C dx fs) ∧ Cls X.K C ∧ NoAttr X.K C f ∧ fs.length < 1000 ∧ ∀ H', Kp [a] H2 H' → H' a = some (.ins C dx (putF f y fs)) → nx σ H')
    (hs : swapsWith value (some (.Attribute o f p1)) pos.line X.env = pure false := by rfl) : XS X (.Assign [.Attribute o f p1] value pos) nx D σ H := by
  refine ⟨_, ps_fld XE.pe XE.pe hs, ?_⟩
  refine XE.mono h fun y H1 h => XE.mono h fun z H2 ⟨a, C, dx, fs, e, ha, c, n, l, q⟩ => ⟨a, C, dx, fs, e, ha, c, n, l, ?_⟩
  exact q _ (Kp.set ha rfl) upd_same

end

/-! ## data of any depth -/
theorem canLay_ints : ∀ ns : List Int, PyData.canLayAll0 (ns.map PyData.int) = true
  | [] => by simp [PyData.canLayAll0]
  | n :: ns => by simp [PyData.canLayAll0, PyData.canLay0, canLay_ints ns]
theorem depth_ints : ∀ ns : List Int, PyData.depthAll (ns.map PyData.int) = 0
  | [] => by simp [PyData.depthAll]
  | n :: ns => by simp [PyData.depthAll, PyData.depth, depth_ints ns]
theorem shT (ns : List Int) : SeqAt.shaped (.tuple (ns.map PyData.int)) = true := by simp [SeqAt.shaped, PyData.canLay0, PyData.depth, canLay_ints, depth_ints]
theorem shL (ns : List Int) : SeqAt.shaped (.list (ns.map PyData.int)) = true := by simp [SeqAt.shaped, PyData.canLay0, PyData.depth, canLay_ints, depth_ints]
theorem dpAll_ints {K : PySem.W.Frag} {H : Hp} : ∀ ns : List Int, DpAll K H (ns.map V.int) (ns.map PyData.int)
  | [] => .nil
  | n :: ns => .cons (.int n) (dpAll_ints ns)
theorem dp_T {K : PySem.W.Frag} {H : Hp} {p : Addr} {ns : List Int} (h : SqT K H p (ns.map V.int)) : Dp K H (.ref p) (.tuple (ns.map PyData.int)) := .tup h (dpAll_ints ns)
theorem dp_L {K : PySem.W.Frag} {H : Hp} {p : Addr} {ns : List Int} (h : SqL K H p (ns.map V.int)) : Dp K H (.ref p) (.list (ns.map PyData.int)) := .lst h (dpAll_ints ns)
mutual
theorem dp_kp {K : PySem.W.Frag} {H H' : Hp} (k : Kp [] H H') : ∀ {d : PyData} {v : V}, Dp K H v d → Dp K H' v d
  | _, _, .non => .non
  | _, _, .bl b => .bl b
  | _, _, .int i => .int i
  | _, _, .str x => .str x
  | _, _, .lst h a => .lst (k.lst0 h) (dpAll_kp k a)
  | _, _, .tup h a => .tup (k.tup h) (dpAll_kp k a)
theorem dpAll_kp {K : PySem.W.Frag} {H H' : Hp} (k : Kp [] H H') : ∀ {ds : List PyData} {vs : List V}, DpAll K H vs ds → DpAll K H' vs ds
  | _, _, .nil => .nil
  | _, _, .cons h a => .cons (dp_kp k h) (dpAll_kp k a)
end
theorem eqv_T (ns ms : List Int) : PyData.eqv (.tuple (ns.map PyData.int)) (.tuple (ms.map PyData.int)) = decide (ns = ms) := by rw [PyData.eqv, PySem.W.ked_eqvAll]
theorem eqv_L (ns ms : List Int) : PyData.eqv (.list (ns.map PyData.int)) (.list (ms.map PyData.int)) = decide (ns = ms) := by rw [PyData.eqv, PySem.W.ked_eqvAll]
section
variable {X : Cx} {σ : St} {H : Hp} {Q : VK} {N Vs Ls G : List Str} {k : Nat} {sc : Scope} {v u : V} {d e : PyData} {p q : Addr} {ns ms : List Int}
theorem vo_eqD (C : Ctx X sc N Vs Ls G k) (hd : Dp X.K H v d) (he : Dp X.K H u e) (sd : SeqAt.shaped d = true) (se : SeqAt.shaped e = true) (h : Q (.bl (PyData.eqv d e)) H) : VO X (compareOp .Eq) v u H Q := ⟨_, op_eqD C.room.units, d, e, hd, he, sd, se, h⟩
theorem vo_neD (C : Ctx X sc N Vs Ls G k) (hd : Dp X.K H v d) (he : Dp X.K H u e) (sd : SeqAt.shaped d = true) (se : SeqAt.shaped e = true) (h : Q (.bl (!PyData.eqv d e)) H) : VO X (compareOp .NotEq) v u H Q := ⟨_, op_neD C.room.units, d, e, hd, he, sd, se, h⟩
theorem vo_eqSame (C : Ctx X sc N Vs Ls G k) (hd : Dp X.K H v d) (he : Dp X.K H u d) (sd : SeqAt.shaped d = true) (h : Q (.bl true) H) : VO X (compareOp .Eq) v u H Q := vo_eqD C hd he sd sd (by rw [SeqAt.eqv_refl d (SeqAt.canLay_of_shaped sd)]; exact h)
theorem vo_neSame (C : Ctx X sc N Vs Ls G k) (hd : Dp X.K H v d) (he : Dp X.K H u d) (sd : SeqAt.shaped d = true) (h : Q (.bl false) H) : VO X (compareOp .NotEq) v u H Q := vo_neD C hd he sd sd (by rw [SeqAt.eqv_refl d (SeqAt.canLay_of_shaped sd)]; exact h)
theorem vo_eqT (C : Ctx X sc N Vs Ls G k) (hd : SqT X.K H p (ns.map V.int)) (he : SqT X.K H q (ms.map V.int)) (h : Q (.bl (decide (ns = ms))) H) : VO X (compareOp .Eq) (.ref p) (.ref q) H Q := vo_eqD C (dp_T hd) (dp_T he) (shT _) (shT _) (by rw [eqv_T]; exact h)
theorem vo_neT (C : Ctx X sc N Vs Ls G k) (hd : SqT X.K H p (ns.map V.int)) (he : SqT X.K H q (ms.map V.int)) (h : Q (.bl (!decide (ns = ms))) H) : VO X (compareOp .NotEq) (.ref p) (.ref q) H Q := vo_neD C (dp_T hd) (dp_T he) (shT _) (shT _) (by rw [eqv_T]; exact h)
theorem vo_eqI (C : Ctx X sc N Vs Ls G k) (hd : SqL X.K H p (ns.map V.int)) (he : SqL X.K H q (ms.map V.int)) (h : Q (.bl (decide (ns = ms))) H) : VO X (compareOp .Eq) (.ref p) (.ref q) H Q := vo_eqD C (dp_L hd) (dp_L he) (shL _) (shL _) (by rw [eqv_L]; exact h)
theorem vo_neI (C : Ctx X sc N Vs Ls G k) (hd : SqL X.K H p (ns.map V.int)) (he : SqL X.K H q (ms.map V.int)) (h : Q (.bl (!decide (ns = ms))) H) : VO X (compareOp .NotEq) (.ref p) (.ref q) H Q := vo_neD C (dp_L hd) (dp_L he) (shL _) (shL _) (by rw [eqv_L]; exact h)
end

/-- the body of a for, of a while -/
def forBody : Stmt → List Stmt
  | .For _ _ b _ _ => b
  | .While _ b _ _ => b
  | _ => []
/-- what a return returns -/
def retE : Stmt → Expr
  | .Return (some e) _ => e
  | _ => .Constant .none 0 ⟨0, 0, 0, 0⟩
def ifBody : Stmt → List Stmt
  | .If _ b _ _ => b
  | _ => []
def ifElse : Stmt → List Stmt
  | .If _ _ b _ => b
  | _ => []
/-! ## a list or a tuple; types -/
def Sq (K : PySem.W.Frag) (H : Hp) (p : Addr) (xs : List V) : Prop := SqL K H p xs ∨ SqT K H p xs
theorem vc_lenS {X : Cx} {H : Hp} {Q : VK} {p : Addr} {xs : List V} (hx : Sq X.K H p xs) (h : Q (.int xs.length) H) : VC X (.builtin "len") [.ref p] H Q := hx.elim (fun z => vc_lenL z h) fun z => vc_lenT z h
theorem vx_S {X : Cx} {H : Hp} {Q : VK} {p : Addr} {xs : List V} {i : Int} {v : V} (hx : Sq X.K H p xs) (hi : atI xs i = some v) (h : Q v H) : VX X (.ref p) (.int i) H Q := hx.elim (fun z => vx_lst z hi h) fun z => vx_tup z hi h
theorem ty_T {K : PySem.W.Frag} {H : Hp} {p : Addr} {xs : List V} (h : SqT K H p xs) : TyX K H (.ref p) (.type "tuple") := by
  rcases h with (h | ⟨o, h⟩) | ⟨o, its, n, h1, h2, _⟩
  · exact .base (.tup h)
  · exact .fTuple h
  · exact .kTuple h1 h2
theorem ty_L {K : PySem.W.Frag} {H : Hp} {p : Addr} {xs : List V} (h : SqL K H p xs) : TyX K H (.ref p) (.type "list") := by
  rcases h with (h | ⟨o, h⟩) | ⟨o, its, n, h1, h2, _⟩
  · exact .base (.lst h)
  · exact .base (.frz h)
  · exact .kList h1 h2
theorem dpAll_len {K : PySem.W.Frag} {H : Hp} : ∀ {vs : List V} {ds : List PyData}, DpAll K H vs ds → vs.length = ds.length
  | _, _, .nil => rfl
  | _, _, .cons _ a => by rw [List.length_cons, List.length_cons, dpAll_len a]
theorem dpAll_at {K : PySem.W.Frag} {H : Hp} : ∀ {vs : List V} {ds : List PyData} {i : Nat} {d : PyData}, DpAll K H vs ds → ds[i]? = some d → ∃ v, vs[i]? = some v ∧ Dp K H v d
  | _, _, _, _, .nil, e => by simp at e
  | _, _, 0, _, .cons h _, e => ⟨_, rfl, by simp at e; rw [← e]; exact h⟩
  | _, _, i + 1, _, .cons _ a, e => by
    obtain ⟨v, h1, h2⟩ := dpAll_at (i := i) a (by simpa using e)
    exact ⟨v, by simpa using h1, h2⟩
theorem depth_at : ∀ {ds : List PyData} {i : Nat} {d : PyData}, ds[i]? = some d → PyData.depth d ≤ PyData.depthAll ds
  | [], _, _, e => by simp at e
  | x :: xs, 0, d, e => by
    have e' : x = d := by simpa using e
    rw [PyData.depthAll, e']; omega
  | x :: xs, i + 1, d, e => by
    have := depth_at (ds := xs) (i := i) (d := d) (by simpa using e)
    rw [PyData.depthAll]; omega

/-! ## small things of tests -/
theorem ite_d {p A B : Prop} [Decidable p] (h1 : p → A) (h2 : ¬ p → B) : if decide p = true then A else B := by
  by_cases h : p
  · rw [if_pos (decide_eq_true h)]; exact h1 h
  · rw [if_neg (by simp [h])]; exact h2 h
theorem ite_nd {p A B : Prop} [Decidable p] (h1 : ¬ p → A) (h2 : p → B) : if (!decide p) = true then A else B := by
  by_cases h : p
  · rw [if_neg (by simp [h])]; exact h2 h
  · rw [if_pos (by simp [h])]; exact h1 h
theorem ite_b {c : Bool} {A B : Prop} (h1 : c = true → A) (h2 : c = false → B) : if c = true then A else B := by
  cases c with
  | true => exact iteT (h1 rfl)
  | false => exact iteF (h2 rfl)
theorem ite_NT {A B : Prop} (h : B) : if (!true) = true then A else B := h
theorem ite_NF {A B : Prop} (h : A) : if (!false) = true then A else B := h
theorem ex_bl {c : Bool} {R : Bool → Prop} (h : R c) : ∃ k, V.bl c = V.bl k ∧ R k := ⟨c, rfl, h⟩
theorem tr_bl {K : PySem.W.Frag} {c : Bool} {H : Hp} {R : Bool → Prop} (h : R c) : ∃ k, TruV K (.bl c) H k ∧ R k := ⟨c, rfl, h⟩
theorem at0 {α : Type} {a : α} {l : List α} : atI (a :: l) 0 = some a := atI_nat (j := 0) rfl
theorem at1 {α : Type} {a b : α} {l : List α} : atI (a :: b :: l) 1 = some b := atI_nat (j := 1) rfl
theorem at2 {α : Type} {a b c : α} {l : List α} : atI (a :: b :: c :: l) 2 = some c := atI_nat (j := 2) rfl
theorem at3 {α : Type} {a b c d : α} {l : List α} : atI (a :: b :: c :: d :: l) 3 = some d := atI_nat (j := 3) rfl
theorem at4 {α : Type} {a b c d e : α} {l : List α} : atI (a :: b :: c :: d :: e :: l) 4 = some e := atI_nat (j := 4) rfl
theorem at5 {α : Type} {a b c d e f : α} {l : List α} : atI (a :: b :: c :: d :: e :: f :: l) 5 = some f := atI_nat (j := 5) rfl
theorem ix0 {n : Nat} : ixN (n + 1) 0 = some 0 := by
  unfold ixN; rw [if_pos (by decide), if_pos (by omega)]; rfl
theorem ix1 {n : Nat} : ixN (n + 2) 1 = some 1 := by
  unfold ixN; rw [if_pos (by decide), if_pos (by omega)]; rfl
theorem sz_ {n : Nat} (h : n ≤ 100000) : n ≤ sizeLine := Nat.le_trans h (by decide)
theorem szl {n : Nat} (h : n < 100000) : n < sizeLine := Nat.lt_of_lt_of_le h (by decide)
theorem sz_lt_ {n : Nat} (h : n < 100000) : n < sizeLine := szl h
theorem cmulL {i j : Int} (h : -(2 ^ 64) < i ∧ i < 2 ^ 64) : CMul i j := .inl h
theorem cmulR {i j : Int} (h : -(2 ^ 64) < j ∧ j < 2 ^ 64) : CMul i j := .inr h
theorem map_at {ns : List Int} {i : Nat} {y : V} (h : (ns.map V.int)[i]? = some y) : ∃ n, ns[i]? = some n ∧ y = .int n := by
  rw [List.getElem?_map] at h
  cases e : ns[i]? with
  | none => rw [e] at h; cases h
  | some n => rw [e] at h; exact ⟨n, rfl, (Option.some.inj h).symm⟩
theorem at_map {ns : List Int} {i : Int} {n : Int} (h0 : 0 ≤ i) (h : ns[i.toNat]? = some n) : atI (ns.map V.int) i = some (.int n) := by
  have e : i = (i.toNat : Int) := by omega
  rw [e]; exact atI_nat (by rw [List.getElem?_map, h]; rfl)

end Z
/-! ## the walk: "m" a name is there, "a" its value, "u" its store, "kp" what still stands, "s" one step, "w" many -/

set_option hygiene false
local macro_rules | `(tactic| wtm_at "m") => `(tactic| first | with_reducible exact Z.Mem.z | (with_reducible refine Z.Mem.s ?_; wtm_at "m") | fail)
local macro_rules | `(tactic| wtm_at "a") => `(tactic| first | with_reducible exact Z.At.z | ((with_reducible show Z.At (_ :: _) _ _ _); with_reducible exact Z.At.s (by wtm_at "a")) | fail)
local macro_rules | `(tactic| wtm_at "u") => `(tactic| first | with_reducible exact Z.Put.z | ((with_reducible show Z.Put (_ :: _) _ _ _ _); with_reducible exact Z.Put.s (by wtm_at "u")) | fail)
local macro_rules | `(tactic| wtm_at "kp") => `(tactic| first | assumption | ((with_reducible show SqT _ _ _ _); with_reducible exact Z.Kp.tup (by assumption) (by wtm_at "kp")) | ((with_reducible show SqL _ _ _ _); with_reducible exact Z.Kp.lst0 (by assumption) (by wtm_at "kp")) | ((with_reducible show _ = some _); with_reducible exact Z.Kp.at0 (by assumption) (by wtm_at "kp")) | ((with_reducible show SqL _ _ _ _); with_reducible exact Z.SqL.of' (by wtm_at "kp")) | ((with_reducible show SqT _ _ _ _); with_reducible exact Z.SqT.of' (by wtm_at "kp")) | fail)
/-! a statement or an expression, by its form; a value, by its form; facts that are there -/
local macro_rules | `(tactic| wtm_at "v") => `(tactic| first | ((with_reducible show Z.VX _ (L2.V.ref _) (L2.V.int (OfNat.ofNat _)) _ _); with_reducible refine Z.vx_tup (by wtm_at "kp") Z.at0 ?_) | ((with_reducible show Z.VX _ (L2.V.ref _) (L2.V.int (OfNat.ofNat _)) _ _); with_reducible refine Z.vx_tup (by wtm_at "kp") Z.at1 ?_) | ((with_reducible show Z.VX _ (L2.V.ref _) (L2.V.int (OfNat.ofNat _)) _ _); with_reducible refine Z.vx_tup (by wtm_at "kp") Z.at2 ?_) | ((with_reducible show Z.VX _ (L2.V.ref _) (L2.V.int (OfNat.ofNat _)) _ _); with_reducible refine Z.vx_tup (by wtm_at "kp") Z.at3 ?_) | ((with_reducible show Z.VX _ (L2.V.ref _) (L2.V.int (OfNat.ofNat _)) _ _); with_reducible refine Z.vx_tup (by wtm_at "kp") Z.at4 ?_) | ((with_reducible show Z.VX _ (L2.V.ref _) (L2.V.int (OfNat.ofNat _)) _ _); with_reducible refine Z.vx_tup (by wtm_at "kp") Z.at5 ?_) | ((with_reducible show Z.VX _ (L2.V.ref _) (L2.V.int (OfNat.ofNat _)) _ _); with_reducible refine Z.vx_lst (by wtm_at "kp") Z.at0 ?_) | ((with_reducible show Z.VX _ (L2.V.ref _) (L2.V.int (OfNat.ofNat _)) _ _); with_reducible refine Z.vx_lst (by wtm_at "kp") Z.at1 ?_) | ((with_reducible show Z.VX _ (L2.V.ref _) (L2.V.int (OfNat.ofNat _)) _ _); with_reducible refine Z.vx_lst (by wtm_at "kp") Z.at2 ?_) | ((with_reducible show Z.VC _ (PySem.Value.builtin "len") [L2.V.ref _] _ _); with_reducible refine Z.vc_lenL (by wtm_at "kp") ?_) | ((with_reducible show Z.VC _ (PySem.Value.builtin "len") [L2.V.ref _] _ _); with_reducible refine Z.vc_lenT (by wtm_at "kp") ?_) | ((with_reducible show Z.VT _ (L2.V.ref _) _ _); with_reducible refine Z.vt_tup (by wtm_at "kp") ?_) | ((with_reducible show Z.VT _ (L2.V.ref _) _ _); with_reducible refine Z.vt_lst (by wtm_at "kp") ?_) | ((with_reducible show Z.VO _ (PySem.binaryOp PySem.Operator.FloorDiv) _ _ _ _); refine Z.vo_fdiv (by exact ⟨by decide, by decide⟩) ?_) | ((with_reducible show Z.VO _ (PySem.binaryOp PySem.Operator.Mod) _ _ _ _); refine Z.vo_mod (by decide) ?_) | ((with_reducible show _ ∧ _); refine ⟨by exact Z.sz_ (by first | decide | (simp; done) | (simp; omega)), ?_⟩) | fail)
local macro_rules | `(tactic| wtm_at "d") => `(tactic| fail)
local macro_rules | `(tactic| wtm_at "s") => `(tactic| first | ((with_reducible show Z.XE _ (PySem.Expr.Name _ _) _ _ _); refine Z.xe_var (by assumption) (by wtm_at "m") (by wtm_at "a") ?_) | with_reducible refine Z.xe_int ?_ | with_reducible refine Z.xe_bin ?_ | ((with_reducible show Z.XA _ (PySem.Expr.Starred _ _ :: _) _ _ _); refine Z.xa_star ?_) | ((with_reducible show Z.XA _ (_ :: _) _ _ _); refine Z.xa_cons ?_) | with_reducible refine Z.xa_nil ?_ | ((with_reducible show Z.XE _ (PySem.Expr.Subscript _ (PySem.Expr.Slice none none (some _) _) _) _ _ _); refine Z.xe_revL ?_) | ((with_reducible show Z.XE _ (PySem.Expr.Subscript _ (PySem.Expr.Slice _ _ none _) _) _ _ _); refine Z.xe_sl ?_) | ((with_reducible show Z.XE _ (PySem.Expr.Subscript _ _ _) _ _ _); refine Z.xe_ix ?_) | with_reducible refine Z.xb_cons ?_ | ((with_reducible show Z.XS _ (PySem.Stmt.Assign [PySem.Expr.Name _ _] _ _) _ _ _ _); refine Z.xs_set (by assumption) ?_ (hx := by wtm_at "m") (hl := by wtm_at "m")) | with_reducible refine Z.xs_ret ?_ | ((with_reducible show Z.XS _ (PySem.Stmt.Expr _ _) _ _ _ _); refine Z.xs_expr ?_) | with_reducible refine Z.xs_if ?_ | ((with_reducible show Z.XE _ (PySem.Expr.Compare _ [_] [_] _) _ _ _); refine Z.xe_cmp ?_) | ((with_reducible show Z.XT _ (PySem.Expr.Compare _ [_] [_] _) _ _ _); refine Z.xt_cmp ?_) | with_reducible refine Z.xt_bool ?_ | with_reducible refine Z.xw_and ?_ | with_reducible refine Z.xw_and1 ?_ | with_reducible refine Z.xw_or ?_ | with_reducible refine Z.xw_or1 ?_ | with_reducible refine Z.xt_not ?_ | with_reducible refine Z.xe_bl ?_ | with_reducible refine Z.xe_non ?_ | with_reducible refine Z.xe_not ?_ | with_reducible refine Z.xe_un ?_ | with_reducible refine Z.xe_and ?_ | with_reducible refine Z.xe_or ?_ | with_reducible refine Z.xe_one ?_ | with_reducible refine Z.xe_tup ?_ | with_reducible refine Z.xe_lst ?_ | with_reducible refine Z.xe_ifExp ?_ | with_reducible refine Z.xb_nil ?_ | ((with_reducible show Z.XG _ (PySem.Expr.Name _ _) _ _ _ _); refine Z.xg_name (by assumption) (by wtm_at "m") (by wtm_at "m") ?_) | with_reducible refine Z.xo_none ?_ | with_reducible refine Z.xo_some ?_ | with_reducible refine Z.xs_pass ?_ | with_reducible refine Z.xs_break ?_ | with_reducible refine Z.xs_cont ?_ | with_reducible refine Z.xs_retN ?_ | ((with_reducible show Z.XE _ (PySem.Expr.Compare _ [_, _] [_, _] _) _ _ _); refine Z.xe_chain ?_) | ((with_reducible show Z.XT _ (PySem.Expr.Compare _ [_, _] [_, _] _) _ _ _); refine Z.xt_chain ?_) | with_reducible refine Z.vo_add ?_ | with_reducible refine Z.vo_sub ?_ | with_reducible refine Z.vo_lt ?_ | with_reducible refine Z.vo_le ?_ | with_reducible refine Z.vo_gt ?_ | with_reducible refine Z.vo_ge ?_ | with_reducible refine Z.vo_eq ?_ | with_reducible refine Z.vo_ne ?_ | with_reducible refine Z.vo_eqB ?_ | with_reducible refine Z.vo_neB ?_ | with_reducible refine Z.vo_isB ?_ | with_reducible refine Z.vo_isN ?_ | with_reducible refine Z.vo_notN ?_ | with_reducible refine Z.vo_notB ?_ | with_reducible refine Z.vu_neg ?_ | with_reducible refine Z.vt_bl ?_ | with_reducible refine Z.vt_int ?_ | with_reducible refine Z.vc_intB ?_ | with_reducible refine Z.vc_int ?_ | with_reducible refine Z.vc_abs ?_ | with_reducible refine Z.ex_bl ?_ | ((with_reducible show Z.XS _ (PySem.Stmt.AugAssign (PySem.Expr.Name _ _) _ _ _) _ _ _ _); refine Z.xs_aug (by assumption) (by wtm_at "a") (by wtm_at "m") ?_) | with_reducible refine Z.vip_add ?_ | with_reducible refine Z.vip_sub ?_ | ((with_reducible show Z.XS _ (PySem.Stmt.Assign [PySem.Expr.Tuple _ _ _] (PySem.Expr.Call _ _ _ _) _) _ _ _ _); refine Z.xs_asg ?_) | ((with_reducible show Z.XS _ (PySem.Stmt.Assign [PySem.Expr.Tuple _ _ _] (PySem.Expr.IfExp _ _ _ _) _) _ _ _ _); refine Z.xs_asg ?_) | ((with_reducible show Z.XS _ (PySem.Stmt.Assign [PySem.Expr.Tuple _ _ _] (PySem.Expr.Name _ _) _) _ _ _ _); refine Z.xs_asg ?_) | ((with_reducible show Z.XGs _ (_ :: _) _ _ _ _); refine Z.xgs_cons ?_) | with_reducible refine Z.xgs_nil ?_ | ((with_reducible show Z.XT _ (PySem.Expr.Call _ _ _ _) _ _ _); refine Z.xt_val ?_) | ((with_reducible show Z.XT _ (PySem.Expr.Name _ _) _ _ _); refine Z.xt_val ?_) | ((with_reducible show Z.XT _ (PySem.Expr.Subscript _ _ _) _ _ _); refine Z.xt_val ?_) | ((with_reducible show Z.XT _ (PySem.Expr.Attribute _ _ _) _ _ _); refine Z.xt_val ?_) | ((with_reducible show Z.XT _ (PySem.Expr.Constant _ _ _) _ _ _); refine Z.xt_val ?_) | ((with_reducible show ∃ i, L2.V.int _ = L2.V.int i ∧ _); refine ⟨_, rfl, ?_⟩) | with_reducible refine L2.iteT ?_ | with_reducible refine L2.iteF ?_ | with_reducible refine Z.ite_NT ?_ | with_reducible refine Z.ite_NF ?_ | ((with_reducible show Z.XE _ (PySem.Expr.Call (PySem.Expr.Attribute _ "append" _) [_] [] _) _ _ _); refine Z.xe_append ?_) | ((with_reducible show ∃ l xs, L2.V.ref _ = L2.V.ref l ∧ _ ∧ Z.XE _ _ _ _ _); refine ⟨_, _, rfl, by wtm_at "kp", ?_⟩) | ((with_reducible show ∃ _, Z.Put _ _ _ _ _ ∧ _); refine ⟨_, by wtm_at "u", ?_⟩) | wtm_at "v" | wtm_at "d" | fail)
local macro_rules | `(tactic| wtm_at "w") => `(tactic| repeat wtm_at "s")

namespace Law
open PySem L2 Z
def topS (i : Nat) : Stmt := PySem.Challenge.pw_sealround_k06_shortest_way_back.main.body.getD i (.Pass ⟨0, 0, 0, 0⟩)
abbrev s__greatest_step : Stmt := topS 1
theorem sc__greatest_step : FnScope ["number"] ["number"] (defScope s__greatest_step) := ⟨rfl, rfl, rfl, by decide +kernel, rfl, by decide +kernel, by decide +kernel⟩
theorem oc__greatest_step : okC (defScope s__greatest_step) ["number"] ["number"] [] = true := by decide +kernel
abbrev s_way_back : Stmt := topS 2
theorem sc_way_back : FnScope ["start", "end", "rounds", "number", "widest"] ["start", "end"] (defScope s_way_back) := ⟨rfl, rfl, rfl, by decide +kernel, rfl, by decide +kernel, by decide +kernel⟩
theorem oc_way_back : okC (defScope s_way_back) ["start", "end", "rounds", "number", "widest"] ["start", "end", "rounds", "number", "widest"] ["max", "min", "_greatest_step"] = true := by decide +kernel
abbrev s__law_cell : Stmt := topS 4
theorem sc__law_cell : FnScope ["script", "k"] ["script", "k"] (defScope s__law_cell) := ⟨rfl, rfl, rfl, by decide +kernel, rfl, by decide +kernel, by decide +kernel⟩
theorem oc__law_cell : okC (defScope s__law_cell) ["script", "k"] ["script", "k"] ["len"] = true := by decide +kernel
abbrev s__law_is_integer : Stmt := topS 7
theorem sc__law_is_integer : FnScope ["told"] ["told"] (defScope s__law_is_integer) := ⟨rfl, rfl, rfl, by decide +kernel, rfl, by decide +kernel, by decide +kernel⟩
theorem oc__law_is_integer : okC (defScope s__law_is_integer) ["told"] ["told"] ["isinstance", "int", "bool"] = true := by decide +kernel
abbrev s__law_same : Stmt := topS 8
theorem sc__law_same : FnScope ["told", "due", "k"] ["told", "due"] (defScope s__law_same) := ⟨rfl, rfl, rfl, by decide +kernel, rfl, by decide +kernel, by decide +kernel⟩
theorem oc__law_same : okC (defScope s__law_same) ["told", "due", "k"] ["told", "due", "k"] ["isinstance", "bool", "int", "_law_is_integer", "str", "tuple", "list", "len", "range", "_law_same"] = true := by decide +kernel
abbrev s__law_backs : Stmt := topS 9
theorem sc__law_backs : FnScope ["number", "out", "step", "turn"] ["number"] (defScope s__law_backs) := ⟨rfl, rfl, rfl, by decide +kernel, rfl, by decide +kernel, by decide +kernel⟩
theorem oc__law_backs : okC (defScope s__law_backs) ["number", "out", "step", "turn"] ["number", "out", "step", "turn"] ["range", "int"] = true := by decide +kernel
abbrev s__law_fewest : Stmt := topS 10
theorem sc__law_fewest : FnScope ["start", "end", "steps", "order", "turn", "one"] ["start", "end"] (defScope s__law_fewest) := ⟨rfl, rfl, rfl, by decide +kernel, rfl, by decide +kernel, by decide +kernel⟩
theorem oc__law_fewest : okC (defScope s__law_fewest) ["start", "end", "steps", "order", "turn", "one"] ["start", "end", "steps", "order", "turn", "one"] ["range", "len", "_law_backs"] = true := by decide +kernel
abbrev s__law_greedy : Stmt := topS 11
theorem sc__law_greedy : FnScope ["start", "end", "way", "turn", "one"] ["start", "end"] (defScope s__law_greedy) := ⟨rfl, rfl, rfl, by decide +kernel, rfl, by decide +kernel, by decide +kernel⟩
theorem oc__law_greedy : okC (defScope s__law_greedy) ["start", "end", "way", "turn"] ["start", "end", "way", "turn"] ["range", "min", "_law_backs"] = true := by decide +kernel
abbrev s_law : Stmt := topS 12
theorem sc_law : FnScope ["script", "turn", "one", "two", "told", "k"] ["script"] (defScope s_law) := ⟨rfl, rfl, rfl, by decide +kernel, rfl, by decide +kernel, by decide +kernel⟩
theorem oc_law : okC (defScope s_law) ["script", "turn", "one", "two", "told", "k"] ["script", "turn", "one", "two", "told", "k"] ["range", "int", "abs", "_law_cell", "way_back", "_law_same", "_law_greedy", "len", "_law_fewest", "_law_backs"] = true := by decide +kernel
/-! what the top leaves -/
structure Txt (P : Program) (w : World) (K : PySem.W.Frag) (mg : Str → Option Value) (base : Heap) where
  b_abs : mg "abs" = none
  b_bool : mg "bool" = none
  b_int : mg "int" = none
  b_isinstance : mg "isinstance" = none
  b_len : mg "len" = none
  b_list : mg "list" = none
  b_max : mg "max" = none
  b_min : mg "min" = none
  b_range : mg "range" = none
  b_str : mg "str" = none
  b_tuple : mg "tuple" = none
  d__greatest_step : DefAt K mg "_greatest_step" "_greatest_step" s__greatest_step ["number"]
  d_way_back : DefAt K mg "way_back" "way_back" s_way_back ["start", "end"]
  d__law_cell : DefAt K mg "_law_cell" "_law_cell" s__law_cell ["script", "k"]
  d__law_is_integer : DefAt K mg "_law_is_integer" "_law_is_integer" s__law_is_integer ["told"]
  d__law_same : DefAt K mg "_law_same" "_law_same" s__law_same ["told", "due"]
  d__law_backs : DefAt K mg "_law_backs" "_law_backs" s__law_backs ["number"]
  d__law_fewest : DefAt K mg "_law_fewest" "_law_fewest" s__law_fewest ["start", "end"]
  d__law_greedy : DefAt K mg "_law_greedy" "_law_greedy" s__law_greedy ["start", "end"]
variable {P : Program} {w : World} {mg : Str → Option Value} {base : Heap} {K : PySem.W.Frag}
local macro_rules | `(tactic| wtm_at "d") => `(tactic| first | ((with_reducible show Z.XE _ (PySem.Expr.Call (PySem.Expr.Name "abs" _) (_ :: _) [] _) _ _ _); refine Z.xe_callB (id := "abs") (by assumption) (by wtm_at "m") T.b_abs (by decide +kernel) ?_) | ((with_reducible show Z.XE _ (PySem.Expr.Call (PySem.Expr.Name "bool" _) (_ :: _) [] _) _ _ _); refine Z.xe_callTy (id := "bool") (by assumption) (by wtm_at "m") T.b_bool (by decide +kernel) ?_) | ((with_reducible show Z.XE _ (PySem.Expr.Name "bool" _) _ _ _); refine Z.xe_ty (id := "bool") (by assumption) (by wtm_at "m") T.b_bool (by decide +kernel) ?_) | ((with_reducible show Z.XE _ (PySem.Expr.Call (PySem.Expr.Name "int" _) (_ :: _) [] _) _ _ _); refine Z.xe_callTy (id := "int") (by assumption) (by wtm_at "m") T.b_int (by decide +kernel) ?_) | ((with_reducible show Z.XE _ (PySem.Expr.Name "int" _) _ _ _); refine Z.xe_ty (id := "int") (by assumption) (by wtm_at "m") T.b_int (by decide +kernel) ?_) | ((with_reducible show Z.XE _ (PySem.Expr.Call (PySem.Expr.Name "isinstance" _) (_ :: _) [] _) _ _ _); refine Z.xe_callB (id := "isinstance") (by assumption) (by wtm_at "m") T.b_isinstance (by decide +kernel) ?_) | ((with_reducible show Z.XE _ (PySem.Expr.Call (PySem.Expr.Name "len" _) (_ :: _) [] _) _ _ _); refine Z.xe_callB (id := "len") (by assumption) (by wtm_at "m") T.b_len (by decide +kernel) ?_) | ((with_reducible show Z.XE _ (PySem.Expr.Call (PySem.Expr.Name "list" _) (_ :: _) [] _) _ _ _); refine Z.xe_callTy (id := "list") (by assumption) (by wtm_at "m") T.b_list (by decide +kernel) ?_) | ((with_reducible show Z.XE _ (PySem.Expr.Name "list" _) _ _ _); refine Z.xe_ty (id := "list") (by assumption) (by wtm_at "m") T.b_list (by decide +kernel) ?_) | ((with_reducible show Z.XE _ (PySem.Expr.Call (PySem.Expr.Name "max" _) (_ :: _) [] _) _ _ _); refine Z.xe_callB (id := "max") (by assumption) (by wtm_at "m") T.b_max (by decide +kernel) ?_) | ((with_reducible show Z.XE _ (PySem.Expr.Call (PySem.Expr.Name "min" _) (_ :: _) [] _) _ _ _); refine Z.xe_callB (id := "min") (by assumption) (by wtm_at "m") T.b_min (by decide +kernel) ?_) | ((with_reducible show Z.XE _ (PySem.Expr.Call (PySem.Expr.Name "str" _) (_ :: _) [] _) _ _ _); refine Z.xe_callTy (id := "str") (by assumption) (by wtm_at "m") T.b_str (by decide +kernel) ?_) | ((with_reducible show Z.XE _ (PySem.Expr.Name "str" _) _ _ _); refine Z.xe_ty (id := "str") (by assumption) (by wtm_at "m") T.b_str (by decide +kernel) ?_) | ((with_reducible show Z.XE _ (PySem.Expr.Call (PySem.Expr.Name "tuple" _) (_ :: _) [] _) _ _ _); refine Z.xe_callTy (id := "tuple") (by assumption) (by wtm_at "m") T.b_tuple (by decide +kernel) ?_) | ((with_reducible show Z.XE _ (PySem.Expr.Name "tuple" _) _ _ _); refine Z.xe_ty (id := "tuple") (by assumption) (by wtm_at "m") T.b_tuple (by decide +kernel) ?_) | ((with_reducible show Z.XE _ (PySem.Expr.Call (PySem.Expr.Name "_greatest_step" _) (_ :: _) [] _) _ _ _); refine Z.xe_call (by assumption) (Law.ok__greatest_step T) (by wtm_at "m") (by omega) ?_) | ((with_reducible show Z.XE _ (PySem.Expr.Call (PySem.Expr.Name "way_back" _) (_ :: _) [] _) _ _ _); refine Z.xe_call (by assumption) (Law.ok_way_back T) (by wtm_at "m") (by omega) ?_) | ((with_reducible show Z.XE _ (PySem.Expr.Call (PySem.Expr.Name "_law_cell" _) (_ :: _) [] _) _ _ _); refine Z.xe_call (by assumption) (Law.ok__law_cell T) (by wtm_at "m") (by omega) ?_) | ((with_reducible show Z.XE _ (PySem.Expr.Call (PySem.Expr.Name "_law_is_integer" _) (_ :: _) [] _) _ _ _); refine Z.xe_call (by assumption) (Law.ok__law_is_integer T) (by wtm_at "m") (by omega) ?_) | ((with_reducible show Z.XE _ (PySem.Expr.Call (PySem.Expr.Name "_law_same" _) (_ :: _) [] _) _ _ _); refine Z.xe_call (by assumption) (Law.ok__law_same T) (by wtm_at "m") (by omega) ?_) | ((with_reducible show Z.XE _ (PySem.Expr.Call (PySem.Expr.Name "_law_backs" _) (_ :: _) [] _) _ _ _); refine Z.xe_call (by assumption) (Law.ok__law_backs T) (by wtm_at "m") (by omega) ?_) | ((with_reducible show Z.XE _ (PySem.Expr.Call (PySem.Expr.Name "_law_fewest" _) (_ :: _) [] _) _ _ _); refine Z.xe_call (by assumption) (Law.ok__law_fewest T) (by wtm_at "m") (by omega) ?_) | ((with_reducible show Z.XE _ (PySem.Expr.Call (PySem.Expr.Name "_law_greedy" _) (_ :: _) [] _) _ _ _); refine Z.xe_call (by assumption) (Law.ok__law_greedy T) (by wtm_at "m") (by omega) ?_) | fail)
local macro_rules | `(tactic| wtm_at "go") => `(tactic| (subst e1; subst e2; subst e3; subst e4; subst e5; simp only [st0]; refine Z.xb_cons ?_))
/-! box -/
/-- the drawing box at b: a list of the drawn row, at r, and the place -/
def Box (H : Hp) (b r : Addr) : Prop := ∃ (i : Int) (ns : List Int), H b = some (.lst [.ref r, .int i]) ∧ 0 ≤ i ∧ H r = some (.lst (ns.map V.int))
theorem noInts {r : V} {i : V} {x : Addr} (hr : r = .ref x) : ∀ ns : List Int, HO.lst [r, i] ≠ .lst (ns.map V.int) := by
  intro ns e
  have e2 : [r, i] = ns.map V.int := HO.lst.inj e
  cases ns with
  | nil => cases e2
  | cons n ns => rw [List.map_cons] at e2; rw [hr] at e2; exact nomatch (List.cons.inj e2).1
theorem Box.br {H : Hp} {b r : Addr} (h : Box H b r) : r ≠ b := by
  obtain ⟨i, ns, h1, h2, h3⟩ := h
  intro e
  rw [e, h1] at h3
  exact noInts rfl ns (Option.some.inj h3)
theorem Box.nl {H : Hp} {b r l : Addr} (h : Box H b r) (n : H l = none) : b ≠ l ∧ r ≠ l := by
  obtain ⟨i, ns, h1, h2, h3⟩ := h
  exact ⟨ne_of_none h1 n, ne_of_none h3 n⟩
theorem Box.kp {H H' : Hp} {b r : Addr} (h : Box H b r) (k : Kp [] H H') : Box H' b r := by
  obtain ⟨i, ns, h1, h2, h3⟩ := h
  exact ⟨i, ns, k.at0 h1, h2, k.at0 h3⟩
theorem Box.kp1 {H H' : Hp} {b r l : Addr} (h : Box H b r) (k : Kp [l] H H') (n : b ≠ l ∧ r ≠ l) : Box H' b r := by
  obtain ⟨i, ns, h1, h2, h3⟩ := h
  exact ⟨i, ns, k.at (by simpa using n.1) h1, h2, k.at (by simpa using n.2) h3⟩
/-- a list of ints is not what is changed, if that is no list of ints -/
theorem ints_kp {K : PySem.W.Frag} {H H' : Hp} {b r : Addr} {u : HO} {ns : List Int} (h : SqL K H r (ns.map V.int)) (hb : H b = some u) (hu : ∀ ns : List Int, u ≠ .lst (ns.map V.int)) (k : Kp [b] H H') : SqL K H' r (ns.map V.int) := by
  rcases h with (h | ⟨o, h⟩) | h
  · refine .inl (.inl (k.at (fun m => ?_) h))
    have e : r = b := by simpa using m
    subst e
    rw [hb] at h
    exact hu ns (Option.some.inj h)
  · exact .inl (.inr ⟨o, k.z _ _ _ h⟩)
  · exact .inr h
theorem Box.ints {K : PySem.W.Frag} {H H' : Hp} {b r s : Addr} {ns : List Int} (h : Box H b r) (k : Kp [b] H H') (hs : SqL K H s (ns.map V.int)) : SqL K H' s (ns.map V.int) := by
  obtain ⟨i, ms, h1, h2, h3⟩ := h
  exact ints_kp hs h1 (noInts rfl) k
/-- what is no list is not the box -/
theorem Box.other {H H' : Hp} {b r p : Addr} {o : HO} (h : Box H b r) (k : Kp [b] H H') (ho : ∀ xs, o ≠ .lst xs) (hp : H p = some o) : H' p = some o := by
  obtain ⟨i, ms, h1, h2, h3⟩ := h
  refine k.at1 (fun e => ?_) hp
  rw [e, h1] at hp
  exact ho _ (Option.some.inj hp).symm
/-- numbers drawn one after another into the list at L -/
def LcI (P : Int → Prop) (H0 : Hp) (b r L : Addr) (t : Nat) (H' : Hp) : Prop := (b ≠ L ∧ r ≠ L) ∧ Kp [b, L] H0 H' ∧ Box H' b r ∧ ∃ ns : List Int, H' L = some (.lst (ns.map V.int)) ∧ ns.length = t ∧ ∀ n ∈ ns, P n
theorem LcI.start {P : Int → Prop} {H H0 : Hp} {b r L : Addr} (b0 : Box H b r) (k : Kp [] H H0) (n : H L = none) (e : H0 L = some (.lst [])) : LcI P H0 b r L 0 H0 := ⟨b0.nl n, Kp.refl _ _, b0.kp k, [], e, rfl, fun _ m => nomatch m⟩
theorem LcI.sz {P : Int → Prop} {H0 H8 H9 : Hp} {b r L : Addr} {t : Nat} (h : LcI P H0 b r L t H8) (ht : t < 100000) (k9 : Kp [b] H8 H9) : ∃ acc, H9 L = some (.lst acc) ∧ acc.length < sizeLine ∧ ∃ ns : List Int, acc = ns.map V.int ∧ H8 L = some (.lst (ns.map V.int)) ∧ ns.length = t ∧ ∀ n ∈ ns, P n := by
  obtain ⟨n, k, b8, ns, e, hl, hp⟩ := h
  exact ⟨_, k9.at1 n.1.symm e, szl (by rw [List.length_map]; omega), ns, rfl, e, hl, hp⟩
theorem LcI.push {P : Int → Prop} {H0 H8 H9 H10 : Hp} {b r L : Addr} {t : Nat} {ns : List Int} {d : Int} (h : LcI P H0 b r L t H8) (hl : ns.length = t) (hp : ∀ n ∈ ns, P n) (k9 : Kp [b] H8 H9) (b9 : Box H9 b r) (hd : P d) (k10 : Kp [L] H9 H10) (e : H10 L = some (.lst (ns.map V.int ++ [.int d]))) : LcI P H0 b r L (t + 1) H10 := by
  obtain ⟨n, k, _⟩ := h
  refine ⟨n, (k.tr1 k9 (.inl (by simp))).tr1 k10 (.inl (by simp)), b9.kp1 k10 n, ns ++ [d], by rw [e, List.map_append]; rfl, by simp [hl], fun m hm => ?_⟩
  rcases List.mem_append.mp hm with z | z
  · exact hp m z
  · rw [List.mem_singleton.mp z]; exact hd
theorem LcI.kp {P : Int → Prop} {H H0 H' : Hp} {b r L : Addr} {t : Nat} (h : LcI P H0 b r L t H') (k : Kp [] H H0) (n : H L = none) : Kp [b] H H' :=
  (k.wk (B := [b]) fun _ m => nomatch m).tr h.2.1 fun l m => by
    rcases List.mem_cons.mp m with z | z
    · exact .inl (by simp [z])
    · rw [List.mem_singleton.mp z]; exact .inr n
theorem Box.neInts {H : Hp} {b r e : Addr} {ns : List Int} (bx : Box H b r) (h : H e = some (.lst (ns.map V.int))) : e ≠ b := by
  obtain ⟨i, ms, h1, _, _⟩ := bx
  intro q
  rw [q, h1] at h
  exact noInts rfl ns (Option.some.inj h)
/-! rows -/
/-- tuples of ints -/
def RowsAt (K : PySem.W.Frag) (H : Hp) (n : Nat) (xs : List V) : Prop := ∀ y ∈ xs, ∃ (q : Addr) (ns : List Int), y = V.ref q ∧ SqT K H q (ns.map V.int) ∧ ns.length ≤ n
theorem RowsAt.kp {K : PySem.W.Frag} {A : List Addr} {H H' : Hp} {n : Nat} {xs : List V} (h : RowsAt K H n xs) (k : Kp A H H') : RowsAt K H' n xs := fun y hy => by
  obtain ⟨q, ns, e, h1, h2⟩ := h y hy
  exact ⟨q, ns, e, k.tup h1, h2⟩
theorem RowsAt.snoc {K : PySem.W.Frag} {H : Hp} {n : Nat} {xs : List V} {q : Addr} {ns : List Int} (h : RowsAt K H n xs) (h1 : SqT K H q (ns.map V.int)) (h2 : ns.length ≤ n) : RowsAt K H n (xs ++ [.ref q]) := fun y hy => by
  rcases List.mem_append.mp hy with m | m
  · exact h y m
  · exact ⟨q, ns, List.mem_singleton.mp m, h1, h2⟩
theorem cut_ints (rs : List Int) (lo hi : Option Int) : ∃ ns : List Int, cutV (rs.map V.int) lo hi = ns.map V.int ∧ ns.length ≤ rs.length ∧ ∀ n ∈ ns, n ∈ rs := by
  refine ⟨(rs.drop (HT.sIx (rs.map V.int).length 0 lo)).take (HT.sIx (rs.map V.int).length (rs.map V.int).length hi - HT.sIx (rs.map V.int).length 0 lo), ?_, ?_, fun n m => List.mem_of_mem_drop (List.mem_of_mem_take m)⟩
  · unfold cutV
    rw [List.map_take, List.map_drop]
  · rw [List.length_take, List.length_drop]; omega
def sp_law (K : PySem.W.Frag) : Sp := fun vs H Q _ => ∃ (a : Addr) (ns : List Int), vs = [.ref a] ∧ SqL K H a (ns.map V.int) ∧ ns.length ≤ 63 ∧ ∀ H', Q (.bl true) H'
/-! pow2 -/
/-! how often two divides -/
theorem and_odd (k : Nat) : (2 * k + 1) &&& (2 * k) = 2 * k := by
  apply Nat.eq_of_testBit_eq
  intro i
  cases i with
  | zero => simp
  | succ i =>
    have e1 : (2 * k + 1) / 2 = k := by omega
    have e2 : 2 * k / 2 = k := by omega
    rw [Nat.testBit_and, Nat.testBit_succ, Nat.testBit_succ, e1, e2, Bool.and_self]
theorem and_even (k : Nat) (h : 0 < k) : (2 * k) &&& (2 * k - 1) = 2 * (k &&& (k - 1)) := by
  apply Nat.eq_of_testBit_eq
  intro i
  have e : (2 * k - 1) / 2 = k - 1 := by omega
  have e2 : 2 * k / 2 = k := by omega
  have e3 : 2 * (k &&& (k - 1)) / 2 = k &&& (k - 1) := by omega
  cases i with
  | zero => simp [Nat.testBit_and]
  | succ i => rw [Nat.testBit_and, Nat.testBit_succ, Nat.testBit_succ, Nat.testBit_succ, e, e2, e3, Nat.testBit_and]
theorem and_le (k : Nat) : k &&& (k - 1) ≤ k := Nat.and_le_left
theorem lo_spec : ∀ n : Nat, 0 < n → ∃ v, n - (n &&& (n - 1)) = 2 ^ v ∧ n % 2 ^ v = 0 ∧ n % 2 ^ (v + 1) ≠ 0 := by
  intro n
  induction n using Nat.strongRecOn with
  | ind n ih =>
    intro h
    rcases Nat.mod_two_eq_zero_or_one n with e | e
    · have hk : 0 < n / 2 := by omega
      obtain ⟨v, h1, h2, h3⟩ := ih (n / 2) (by omega) hk
      have en : n = 2 * (n / 2) := by omega
      refine ⟨v + 1, ?_, ?_, ?_⟩
      · have := and_even (n / 2) hk
        rw [← en] at this
        have l := and_le (n / 2)
        rw [this, Nat.pow_succ, ← h1]; omega
      · rw [en, Nat.pow_succ, Nat.mul_comm (2 ^ v) 2, Nat.mul_mod_mul_left, h2]
      · rw [en, Nat.pow_succ, Nat.mul_comm (2 ^ (v + 1)) 2, Nat.mul_mod_mul_left]; omega
    · have en : n = 2 * (n / 2) + 1 := by omega
      refine ⟨0, ?_, by omega, by simpa using by omega⟩
      have := and_odd (n / 2)
      have e1 : n - 1 = 2 * (n / 2) := by omega
      rw [e1]
      have e2 : n &&& (2 * (n / 2)) = 2 * (n / 2) := by
        have : n &&& (2 * (n / 2)) = (2 * (n / 2) + 1) &&& (2 * (n / 2)) := by rw [← en]
        rw [this]; exact and_odd _
      rw [e2]; omega
/-- how many rounds a round goes back to -/
def cntB (n : Int) : Nat := Builtin.Int.intBits (Builtin.bitAnd n (-n))
theorem cntB_zero : cntB 0 = 0 := by decide
theorem cntB_pos {n : Int} (h : 0 < n) : ∃ v : Nat, cntB n = v + 1 ∧ n.toNat % 2 ^ v = 0 ∧ n.toNat % 2 ^ (v + 1) ≠ 0 := by
  obtain ⟨v, h1, h2, h3⟩ := lo_spec n.toNat (by omega)
  refine ⟨v, ?_, h2, h3⟩
  unfold cntB
  have e : Builtin.bitAnd n (-n) = ((2 ^ v : Nat) : Int) := by
    rw [PyProof.Rows.bitAnd_pn (by omega) (by omega)]
    have e1 : (Builtin.bitNot (-n)).toNat = n.toNat - 1 := by unfold Builtin.bitNot; omega
    have l := and_le n.toNat
    rw [e1]
    clear h2 h3
    generalize n.toNat &&& (n.toNat - 1) = c at *
    omega
  rw [e]
  unfold Builtin.Int.intBits
  have p : 0 < 2 ^ v := Nat.pow_pos (by decide)
  have ne : (((2 ^ v : Nat) : Int) == 0) = false := beq_eq_false_iff_ne.mpr (by omega)
  rw [ne]
  simp only [Bool.false_eq_true, if_false, Int.natAbs_natCast, Nat.log2_two_pow]
theorem dvd_iff {n v i : Nat} (h2 : n % 2 ^ v = 0) (h3 : n % 2 ^ (v + 1) ≠ 0) : n % 2 ^ i = 0 ↔ i ≤ v := by
  constructor
  · intro h
    by_cases hi : i ≤ v
    · exact hi
    · have d : 2 ^ (v + 1) ∣ n := Nat.dvd_trans (Nat.pow_dvd_pow 2 (by omega)) (Nat.dvd_of_mod_eq_zero h)
      exact absurd (Nat.mod_eq_zero_of_dvd d) h3
  · intro hi
    exact Nat.mod_eq_zero_of_dvd (Nat.dvd_trans (Nat.pow_dvd_pow 2 hi) (Nat.dvd_of_mod_eq_zero h2))
theorem cast_pow (i : Nat) : ((2 ^ i : Nat) : Int) = (2 : Int) ^ i := by simp
theorem cnt_lt {n : Int} (h : 0 ≤ n) (i : Nat) : i < cntB n ↔ (2 : Int) ^ i ≤ n ∧ n % 2 ^ i = 0 := by
  by_cases h0 : n = 0
  · subst h0
    rw [cntB_zero]
    have p : (0 : Int) < 2 ^ i := by rw [← cast_pow]; exact_mod_cast Nat.pow_pos (by decide)
    omega
  · obtain ⟨v, e, h2, h3⟩ := cntB_pos (n := n) (by omega)
    rw [e]
    have en : n = ((n.toNat : Nat) : Int) := by omega
    have em : n % 2 ^ i = ((n.toNat % 2 ^ i : Nat) : Int) := by
      conv => lhs; rw [en, ← cast_pow]
      exact (Int.natCast_emod _ _).symm
    constructor
    · intro hi
      have z := (dvd_iff h2 h3 (i := i)).mpr (by omega)
      have l : 2 ^ i ≤ n.toNat := Nat.le_of_dvd (by omega) (Nat.dvd_of_mod_eq_zero z)
      rw [em, z]
      refine ⟨?_, rfl⟩
      rw [en, ← cast_pow]; exact_mod_cast l
    · rintro ⟨_, hm⟩
      rw [em] at hm
      have := (dvd_iff h2 h3 (i := i)).mp (by omega)
      omega
theorem cnt_le {n : Int} {m : Nat} (h : 0 ≤ n) (hm : n < 2 ^ m) : cntB n ≤ m := by
  by_cases hc : m < cntB n
  · have := ((cnt_lt h m).mp hc).1
    omega
  · omega
/-- the rounds back -/
def bk (n : Int) : List Int := (List.range (cntB n)).map fun i => n - 2 ^ i
theorem bk_len (n : Int) : (bk n).length = cntB n := by unfold bk; rw [List.length_map, List.length_range]
def bkTo (n : Int) (i : Nat) : List Int := (List.range i).map fun i => n - 2 ^ i
theorem bkTo_succ (n : Int) (i : Nat) : bkTo n (i + 1) = bkTo n i ++ [n - 2 ^ i] := by unfold bkTo; rw [List.range_succ, List.map_append]; rfl
theorem bkTo_len (n : Int) (i : Nat) : (bkTo n i).length = i := by unfold bkTo; rw [List.length_map, List.length_range]
/-! greedy -/
/-! the way back that goes each time to the least round not below the end -/
theorem bits_iff {d : Int} (h : 0 ≤ d) (i : Nat) : i < Builtin.Int.intBits d ↔ (2 : Int) ^ i ≤ d := by
  obtain ⟨m, rfl⟩ := Int.eq_ofNat_of_zero_le h
  have c : ((2 : Int) ^ i ≤ (m : Int)) ↔ 2 ^ i ≤ m := by
    rw [← cast_pow]; exact Int.ofNat_le
  rw [c]
  by_cases h0 : m = 0
  · subst h0
    have p : 0 < 2 ^ i := Nat.pow_pos (by decide)
    have e : Builtin.Int.intBits ((0 : Nat) : Int) = 0 := by decide
    rw [e]; omega
  · have e : Builtin.Int.intBits (m : Int) = m.log2 + 1 := by
      unfold Builtin.Int.intBits
      have ne : ((m : Int) == 0) = false := beq_eq_false_iff_ne.mpr (by omega)
      rw [ne]; simp
    rw [e, ← Nat.le_log2 h0]; omega
def jj (n e : Int) : Nat := min (cntB n) (Builtin.Int.intBits (n - e))
def st1 (n e : Int) : Int := n - 2 ^ (jj n e - 1)
/-- the rounds after the first one -/
def gt : Nat → Int → Int → List Int
  | 0, _, _ => []
  | k + 1, n, e => if e < n then st1 n e :: gt k (st1 n e) e else []
theorem jj_pos {n e : Int} (h0 : 0 ≤ e) (h : e < n) : 0 < jj n e := by
  have a : 0 < cntB n := (cnt_lt (by omega) 0).mpr ⟨by simp; omega, by simp⟩
  have b : 0 < Builtin.Int.intBits (n - e) := (bits_iff (by omega) 0).mpr (by simp; omega)
  unfold jj; omega
theorem pow_pos2 (i : Nat) : (0 : Int) < 2 ^ i := by rw [← cast_pow]; exact_mod_cast Nat.pow_pos (by decide)
theorem pow_mono {i j : Nat} (h : i ≤ j) : (2 : Int) ^ i ≤ 2 ^ j := by
  rw [← cast_pow, ← cast_pow]; exact_mod_cast Nat.pow_le_pow_right (by decide) h
theorem pow_succ2 (i : Nat) : (2 : Int) ^ (i + 1) = 2 * 2 ^ i := by rw [Int.pow_succ, Int.mul_comm]
theorem st1_ge {n e : Int} (h0 : 0 ≤ e) (h : e < n) : e ≤ st1 n e := by
  have p := jj_pos h0 h
  have := (bits_iff (d := n - e) (by omega) (jj n e - 1)).mp (by unfold jj at *; omega)
  unfold st1; omega
theorem st1_lt {n e : Int} : st1 n e < n := by
  have := pow_pos2 (jj n e - 1)
  unfold st1; omega
theorem bk_mem {n y : Int} {c : Nat} : y ∈ bkTo n c ↔ ∃ i, i < c ∧ y = n - 2 ^ i := by
  unfold bkTo
  simp only [List.mem_map, List.mem_range]
  constructor
  · rintro ⟨i, h, e⟩; exact ⟨i, h, e.symm⟩
  · rintro ⟨i, h, e⟩; exact ⟨i, h, e.symm⟩
theorem st1_mem {n e : Int} (h0 : 0 ≤ e) (h : e < n) : st1 n e ∈ bkTo n (cntB n) := by
  have p := jj_pos h0 h
  exact bk_mem.mpr ⟨jj n e - 1, by unfold jj at *; omega, rfl⟩
/-- the least of the rounds back that are not below the end -/
theorem bk_min {n e m : Int} (h0 : 0 ≤ e) (h : e < n) (hm : m ∈ bkTo n (jj n e)) (hl : ∀ y, y ∈ bkTo n (jj n e) → m ≤ y) : m = st1 n e := by
  have p := jj_pos h0 h
  obtain ⟨i, hi, rfl⟩ := bk_mem.mp hm
  have a := hl (n - 2 ^ (jj n e - 1)) (bk_mem.mpr ⟨_, by omega, rfl⟩)
  have b := pow_mono (show i ≤ jj n e - 1 by omega)
  unfold st1; omega
theorem gs_pow {n : Int} (h : 0 < n) : Builtin.bitAnd n (-n) = 2 ^ (cntB n - 1) := by
  obtain ⟨v, h1, h2, h3⟩ := lo_spec n.toNat (by omega)
  have e : Builtin.bitAnd n (-n) = ((2 ^ v : Nat) : Int) := by
    rw [PyProof.Rows.bitAnd_pn (by omega) (by omega)]
    have e1 : (Builtin.bitNot (-n)).toNat = n.toNat - 1 := by unfold Builtin.bitNot; omega
    have l := and_le n.toNat
    rw [e1]
    clear h2 h3
    generalize n.toNat &&& (n.toNat - 1) = c at *
    omega
  have e2 : cntB n = v + 1 := by
    unfold cntB
    rw [e]
    unfold Builtin.Int.intBits
    have p : 0 < 2 ^ v := Nat.pow_pos (by decide)
    have ne : (((2 ^ v : Nat) : Int) == 0) = false := beq_eq_false_iff_ne.mpr (by omega)
    rw [ne]
    simp only [Bool.false_eq_true, if_false, Int.natAbs_natCast, Nat.log2_two_pow]
  rw [e, e2, ← cast_pow]; rfl
/-- what the program takes away -/
theorem step_min {n e : Int} (h0 : 0 ≤ e) (h : e < n) : (if Builtin.bitAnd n (-n) < 2 ^ (Builtin.Int.intBits (n - e) - 1) then Builtin.bitAnd n (-n) else 2 ^ (Builtin.Int.intBits (n - e) - 1)) = 2 ^ (jj n e - 1) := by
  have p := jj_pos h0 h
  rw [gs_pow (by omega)]
  unfold jj at *
  by_cases c : cntB n ≤ Builtin.Int.intBits (n - e)
  · rw [Nat.min_eq_left c]
    have := pow_mono (show cntB n - 1 ≤ Builtin.Int.intBits (n - e) - 1 by omega)
    by_cases d : (2 : Int) ^ (cntB n - 1) < 2 ^ (Builtin.Int.intBits (n - e) - 1)
    · rw [if_pos d]
    · rw [if_neg d]; omega
  · rw [Nat.min_eq_right (by omega)]
    have := pow_mono (show Builtin.Int.intBits (n - e) - 1 ≤ cntB n - 1 by omega)
    rw [if_neg (by omega)]
def mz (n e : Int) : Nat := if n ≤ e then 0 else if cntB n ≤ Builtin.Int.intBits (n - e) then 130 - cntB n else Builtin.Int.intBits (n - e)
theorem dvd_le {p m : Int} (h : 0 < m) (d : m % p = 0) : p ≤ m := Int.le_of_dvd h (Int.dvd_of_emod_eq_zero d)
theorem bits_le {d : Int} {k : Nat} (h : 0 ≤ d) (hd : d < 2 ^ k) : Builtin.Int.intBits d ≤ k := by
  by_cases c : k < Builtin.Int.intBits d
  · have := (bits_iff h k).mp c; omega
  · omega
theorem cnt_up {n : Int} (h : 0 < n) (h' : 0 < n - 2 ^ (cntB n - 1)) : cntB n < cntB (n - 2 ^ (cntB n - 1)) := by
  obtain ⟨v, e, h2, h3⟩ := cntB_pos h
  rw [e] at h' ⊢
  have z : (n - 2 ^ (v + 1 - 1)) % 2 ^ (v + 1) = 0 := by
    have eN : n.toNat = 2 ^ v * (n.toNat / 2 ^ v) := by
      have := Nat.div_add_mod n.toNat (2 ^ v); omega
    generalize n.toNat / 2 ^ v = u at eN
    have od : u % 2 = 1 := by
      rw [eN, Nat.pow_succ, Nat.mul_mod_mul_left] at h3
      have : u % 2 = 0 ∨ u % 2 = 1 := by omega
      rcases this with t | t
      · rw [t] at h3; simp at h3
      · exact t
    have eu : u = 2 * (u / 2) + 1 := by omega
    generalize u / 2 = r at eu
    have en : n = 2 ^ v * (2 * (r : Int) + 1) := by
      have : n = ((n.toNat : Nat) : Int) := by omega
      rw [this, eN, eu, Int.natCast_mul, cast_pow]; simp
    have e3 : n - 2 ^ (v + 1 - 1) = 2 ^ (v + 1) * (r : Int) := by
      rw [en, show v + 1 - 1 = v from rfl, Int.pow_succ, Int.mul_add, Int.mul_one, Int.mul_assoc]; omega
    rw [e3]; exact Int.mul_emod_right _ _
  exact (cnt_lt (by omega) (v + 1)).mpr ⟨dvd_le h' z, z⟩
theorem mz_lt {n e : Int} (h0 : 0 ≤ e) (h : e < n) (hn : n < 2 ^ 60) : mz (st1 n e) e < mz n e := by
  have C60 := cnt_le (m := 60) (n := n) (by omega) hn
  have B60 : Builtin.Int.intBits (n - e) ≤ 60 := bits_le (by omega) (by omega)
  have p := jj_pos h0 h
  have sl := st1_lt (n := n) (e := e)
  have sg := st1_ge h0 h
  have C60' := cnt_le (m := 60) (n := st1 n e) (by omega) (by omega)
  have B60' : Builtin.Int.intBits (st1 n e - e) ≤ 60 := bits_le (by omega) (by omega)
  unfold mz
  rw [if_neg (show ¬ n ≤ e by omega)]
  by_cases c : cntB n ≤ Builtin.Int.intBits (n - e)
  · rw [if_pos c]
    have ej : jj n e = cntB n := by unfold jj; omega
    by_cases d : st1 n e ≤ e
    · rw [if_pos d]; omega
    · rw [if_neg d]
      have es : st1 n e = n - 2 ^ (cntB n - 1) := by unfold st1; rw [ej]
      have up := cnt_up (n := n) (by omega) (by rw [← es]; omega)
      rw [← es] at up
      by_cases c' : cntB (st1 n e) ≤ Builtin.Int.intBits (st1 n e - e)
      · rw [if_pos c']; omega
      · rw [if_neg c']; omega
  · rw [if_neg c]
    have ej : jj n e = Builtin.Int.intBits (n - e) := by unfold jj; omega
    generalize hB : Builtin.Int.intBits (n - e) = B at *
    by_cases d : st1 n e ≤ e
    · rw [if_pos d]; omega
    · rw [if_neg d]
      have es : st1 n e = n - 2 ^ (B - 1) := by unfold st1; rw [ej]
      have hlt : n - e < 2 ^ B := by
        have := (bits_iff (d := n - e) (by omega) B)
        rw [hB] at this
        have : ¬ (2 : Int) ^ B ≤ n - e := fun z => by have := this.mpr z; omega
        omega
      have e2 : (2 : Int) ^ B = 2 * 2 ^ (B - 1) := by
        rw [← pow_succ2]; congr 1; omega
      have hb' : Builtin.Int.intBits (st1 n e - e) ≤ B - 1 := bits_le (by omega) (by rw [es]; omega)
      have z : n % 2 ^ (B - 1) = 0 := ((cnt_lt (n := n) (by omega) (B - 1)).mp (by omega)).2
      have z' : st1 n e % 2 ^ (B - 1) = 0 := by
        rw [es, Int.sub_emod, z, Int.emod_self]; simp
      have hc : B - 1 < cntB (st1 n e) := (cnt_lt (by omega) (B - 1)).mpr ⟨dvd_le (by omega) z', z'⟩
      rw [if_neg (by omega)]; omega
theorem mz_le {n e : Int} (h0 : 0 ≤ e) (h : e ≤ n) (hn : n < 2 ^ 60) : mz n e ≤ 130 := by
  have B60 : Builtin.Int.intBits (n - e) ≤ 60 := bits_le (by omega) (by omega)
  unfold mz
  by_cases a : n ≤ e
  · rw [if_pos a]; omega
  · rw [if_neg a]
    by_cases c : cntB n ≤ Builtin.Int.intBits (n - e)
    · rw [if_pos c]; omega
    · rw [if_neg c]; omega
theorem mz_pos {n e : Int} (h0 : 0 ≤ e) (h : e < n) (hn : n < 2 ^ 60) : 0 < mz n e := by
  have := mz_lt h0 h hn; omega
theorem gt_len : ∀ (k : Nat) (n e : Int), (gt k n e).length ≤ k
  | 0, n, e => by simp [gt]
  | k + 1, n, e => by
    rw [gt]
    by_cases c : e < n
    · rw [if_pos c, List.length_cons]
      have := gt_len k (st1 n e) e; omega
    · rw [if_neg c]; simp
theorem gt_end {k : Nat} {n e : Int} (h : n ≤ e) : gt k n e = [] := by
  cases k with
  | zero => rfl
  | succ k => rw [gt, if_neg (by omega)]
theorem gt_go {k : Nat} {n e : Int} (h : e < n) : gt (k + 1) n e = st1 n e :: gt k (st1 n e) e := by rw [gt, if_pos h]
/-- with turns enough it ends at the end -/
theorem gt_last : ∀ (k : Nat) (n e : Int), 0 ≤ e → e ≤ n → n < 2 ^ 60 → mz n e ≤ k → (n :: gt k n e).getLast? = some e
  | k, n, e, h0, h, hn, hk => by
    by_cases c : e < n
    · have p := mz_pos h0 c hn
      cases k with
      | zero => omega
      | succ k =>
        rw [gt_go c, List.getLast?_cons_cons]
        have := mz_lt h0 c hn
        have := st1_lt (n := n) (e := e)
        exact gt_last k (st1 n e) e h0 (st1_ge h0 c) (by omega) (by omega)
    · have : n = e := by omega
      rw [gt_end (by omega), this]; rfl
/-- each round goes back to the next one -/
theorem gt_chain : ∀ (k : Nat) (n e : Int), 0 ≤ e → e ≤ n → ∀ (i : Nat) (x y : Int), (n :: gt k n e)[i]? = some x → (n :: gt k n e)[i + 1]? = some y → y ∈ bkTo x (cntB x) ∧ e ≤ x ∧ x ≤ n
  | 0, n, e, h0, h, i, x, y, hx, hy => by simp [gt] at hy
  | k + 1, n, e, h0, h, i, x, y, hx, hy => by
    by_cases c : e < n
    · rw [gt_go c] at hx hy
      cases i with
      | zero =>
        have a : n = x := by simpa using hx
        have b : st1 n e = y := by simpa using hy
        rw [← a, ← b]
        exact ⟨st1_mem h0 c, h, Int.le_refl _⟩
      | succ i =>
        obtain ⟨a, b, d⟩ := gt_chain k (st1 n e) e h0 (st1_ge h0 c) i x y (by simpa using hx) (by simpa using hy)
        have := st1_lt (n := n) (e := e)
        exact ⟨a, b, by omega⟩
    · rw [gt_end (by omega)] at hy; simp at hy
/-! the search -/
def lk : List (Int × Int) → Int → Option Int
  | [], _ => none
  | p :: r, x => if p.1 = x then some p.2 else lk r x
def bin (x : Int) : List (Int × Int) → List Int → List (Int × Int)
  | ps, [] => ps
  | ps, one :: r => bin x (if (lk ps one).isSome then ps else ps ++ [(one, (lk ps x).getD 0 + 1)]) r
def bst (t : Nat) (ps : List (Int × Int)) : List (Int × Int) :=
  match ps[t]? with
  | none => ps
  | some p => bin p.1 ps (bkTo p.1 (cntB p.1))
def bto : Nat → Int → List (Int × Int)
  | 0, s => [(s, 0)]
  | t + 1, s => bst t (bto t s)
def chk (ps : List (Int × Int)) (s : Int) : Nat → Bool
  | 0 => true
  | e + 1 => decide (lk ps (e : Int) = some ((gt 130 s (e : Int)).length : Int)) && chk ps s e
theorem few_all : (List.range 41).all (fun s => chk (bto 42 (s : Int)) (s : Int) (s + 1)) = true := by decide +kernel
theorem chk_at {ps : List (Int × Int)} {s : Int} : ∀ {k e : Nat}, chk ps s k = true → e < k → lk ps (e : Int) = some ((gt 130 s (e : Int)).length : Int)
  | 0, e, _, h => by omega
  | k + 1, e, c, h => by
    rw [chk, Bool.and_eq_true, decide_eq_true_eq] at c
    by_cases z : e = k
    · rw [z]; exact c.1
    · exact chk_at c.2 (by omega)
theorem few {s e : Int} (h0 : 0 ≤ e) (h : e ≤ s) (hs : s ≤ 40) : lk (bto 42 s) e = some ((gt 130 s e).length : Int) := by
  obtain ⟨s', rfl⟩ := Int.eq_ofNat_of_zero_le (show 0 ≤ s by omega)
  obtain ⟨e', rfl⟩ := Int.eq_ofNat_of_zero_le h0
  exact chk_at (List.all_eq_true.mp few_all s' (List.mem_range.mpr (by omega))) (by omega)
theorem lk_app {ps qs : List (Int × Int)} {x : Int} : lk (ps ++ qs) x = (lk ps x).or (lk qs x) := by
  induction ps with
  | nil => simp [lk]
  | cons p r ih =>
    rw [List.cons_append, lk, lk, ih]
    by_cases e : p.1 = x
    · simp [e]
    · simp [e]
theorem lk_mem : ∀ {ps : List (Int × Int)} {x c : Int}, (x, c) ∈ ps → (lk ps x).isSome = true
  | [], x, c, h => nomatch h
  | p :: r, x, c, h => by
    rw [lk]
    by_cases e : p.1 = x
    · simp [e]
    · rw [if_neg e]
      rcases List.mem_cons.mp h with m | m
      · rw [← m] at e; exact absurd rfl e
      · exact lk_mem m
/-! seqs -/
theorem map_at_bl {bs : List Bool} {i : Nat} {y : V} (h : (bs.map V.bl)[i]? = some y) : ∃ n, bs[i]? = some n ∧ y = .bl n := by
  rw [List.getElem?_map] at h
  cases e : bs[i]? with
  | none => rw [e] at h; cases h
  | some n => rw [e] at h; exact ⟨n, rfl, (Option.some.inj h).symm⟩
theorem drop_at {α : Type} {l : List α} {t : Nat} {x : α} (h : l[t]? = some x) : l.drop t = x :: l.drop (t + 1) := by
  obtain ⟨h1, h2⟩ := List.getElem?_eq_some_iff.mp h
  rw [List.drop_eq_getElem_cons h1, h2]
theorem at_nat {α : Type} {xs : List α} {t : Nat} {y : α} (h : xs[t]? = some y) : atI xs (t : Int) = some y := by
  have hi := (List.getElem?_eq_some_iff.mp h).1
  unfold atI ixN
  rw [if_pos (by omega), if_pos (by omega)]
  exact h
/-! dicts -/
/-! dicts with numbers for keys; least and greatest -/
section
variable {X : Cx} {σ : St} {H : Hp} {Q : VK} {N Vs Ls G : List Str} {k : Nat} {sc : Scope} {a b e o i : Expr} {pos p1 : Pos} {R : Bool → Hp → Prop} {D : B3} {nx : St → Hp → Prop}
theorem xe_dget (C : Ctx X sc N Vs Ls G k) (h : XE X a σ H fun x H1 => XE X b σ H1 fun y H2 => ∃ p v, x = .ref p ∧ DGet H2 p y (some v) ∧ Q v H2) (hs : NoSl b := by exact fun _ _ => rfl) : XE X (.Subscript a b pos) σ H Q := ⟨_, pe_dget C.hu XE.pe XE.pe hs, h⟩
theorem xt_dnotin (C : Ctx X sc N Vs Ls G k) (h : XE X a σ H fun y H1 => XE X b σ H1 fun x H2 => ∃ p o, x = .ref p ∧ DGet H2 p y o ∧ R (!o.isSome) H2) (hb : behindInMarks .NotIn b = false := by rfl) : XT X (.Compare a [.NotIn] [b] pos) σ H R :=
  ⟨_, pt_cmp (pc_dnotin C.hu XE.pe XE.pe) hb, XE.mono h fun y H1 h => XE.mono h fun x H2 ⟨p, o, e1, e2, q⟩ => ⟨p, o, e1, e2, _, rfl, q⟩⟩
theorem xs_dput (C : Ctx X sc N Vs Ls G k) (h : XE X e σ H fun v H1 => XE X o σ H1 fun x H2 => XE X i σ H2 fun y H3 => ∃ (p : Addr) (kvs : List (Key × V)) (kk : Key), x = .ref p ∧ y = kV kk ∧ H3 p = some (.dK kvs) ∧ kvs.length < sizeLine ∧ ∀ H', Kp [p] H3 H' → H' p = some (.dK (putK kvs kk v)) → nx σ H')
    (hs : swapsWith e (some (.Subscript o i p1)) pos.line X.env = pure false := by rfl) : XS X (.Assign [.Subscript o i p1] e pos) nx D σ H :=
  ⟨_, ps_dput C.hu XE.pe XE.pe XE.pe hs, XE.mono h fun v H1 h => XE.mono h fun x H2 h => XE.mono h fun y H3 ⟨p, kvs, kk, e1, e2, e3, e4, q⟩ => ⟨p, _, e1, .inl ⟨kvs, kk, e3, e2, e4, rfl⟩, q _ (Kp.set e3 rfl) upd_same⟩⟩
theorem xe_disp1 (h : ∀ p H1, Kp [] H H1 → H p = none → H1 p = some (.dK []) → XE X a σ H1 fun x H2 => XE X b σ H2 fun y H3 => H3 p = some (.dK []) ∧ ∃ kk : Key, x = kV kk ∧ ∀ H4, Kp [p] H3 H4 → H4 p = some (.dK [(kk, y)]) → Q (.ref p) H4) : XE X (.Dict [some a] [b] pos) σ H Q := by
  refine ⟨_, pe_disp (pps_cons XE.pe XE.pe pps_nil) rfl rfl (fun z => by cases z) (by simp), fun p hp => ?_⟩
  show XE X a σ _ _
  refine XE.mono (h p _ (Kp.new hp) hp upd_same) fun x H2 h => ?_
  show XE X b σ _ _
  refine XE.mono h fun y H3 ⟨e, kk, ek, q⟩ => ?_
  exact ⟨e, [(kk, y)], by rw [ek]; rfl, by simp, q _ (Kp.set e rfl) upd_same⟩
theorem vc_min2 {x y : Int} (C : Ctx X sc N Vs Ls G k) (h : Q (.int (if y < x then y else x)) H) : VC X (.builtin "min") [.int x, .int y] H Q := ⟨_, call_min2 C.calm, x, y, rfl, h⟩
theorem vc_max2 {x y : Int} (C : Ctx X sc N Vs Ls G k) (h : Q (.int (if y > x then y else x)) H) : VC X (.builtin "max") [.int x, .int y] H Q := ⟨_, call_max2 C.calm, x, y, rfl, h⟩
theorem vc_minL {p : Addr} {ns : List Int} (C : Ctx X sc N Vs Ls G k) (hx : SqL X.K H p (ns.map V.int)) (h0 : 0 < ns.length) (h : ∀ m, m ∈ ns → (∀ y, y ∈ ns → m ≤ y) → Q (.int m) H) : VC X (.builtin "min") [.ref p] H Q := ⟨_, cr_min C.calm, p, ns, rfl, hx, h0, h⟩
theorem inV_ints {y : Int} : ∀ ns : List Int, inV (.int y) (ns.map V.int) = decide (y ∈ ns)
  | [] => by simp [inV]
  | n :: ns => by
    have ih := inV_ints (y := y) ns
    unfold inV at ih ⊢
    rw [List.map_cons, List.any_cons, ih]
    by_cases e : n = y
    · simp [eqV, e]
    · have : ¬ y = n := fun z => e z.symm
      simp [eqV, e, this]
theorem vo_notInI {p : Addr} {y : Int} {ns : List Int} (hx : SqL X.K H p (ns.map V.int)) (h : Q (.bl (!decide (y ∈ ns))) H) : VO X (compareOp .NotIn) (.int y) (.ref p) H Q :=
  ⟨_, op_notIn_seq, p, _, rfl, .inl hx, rfl, by simp [flatV], by rw [inV_ints]; exact h⟩
end
theorem at_getLast {α : Type} {xs : List α} {v : α} (h : xs.getLast? = some v) : atI xs (-1) = some v := by
  have l : 0 < xs.length := by
    cases xs with
    | nil => cases h
    | cons x xs => simp
  unfold atI ixN
  rw [if_neg (by decide), if_pos (by omega)]
  rw [List.getLast?_eq_getElem?] at h
  simp only [Option.bind]
  rw [← h]
  congr 1
  omega
/-- the dict of the search -/
def kvsI (ps : List (Int × Int)) : List (Key × V) := ps.map fun p => (.inl p.1, .int p.2)
theorem valV_kvsI (x : Int) : ∀ ps : List (Int × Int), valV (kvsI ps) (.inl x) = (lk ps x).map V.int
  | [] => rfl
  | p :: r => by
    rw [lk]
    show valV ((Sum.inl p.1, V.int p.2) :: kvsI r) (.inl x) = _
    by_cases e : p.1 = x
    · rw [if_pos e, valV_pos (by rw [e])]; rfl
    · rw [if_neg e, valV_neg (fun z => e (Sum.inl.inj z)), valV_kvsI x r]
def keysI (ps : List (Int × Int)) : List V := ps.map fun p => V.int p.1
/-! _law_cell -/
def sp_cell (K : PySem.W.Frag) : Sp := fun vs H Q _ => ∃ (a : Addr) (ns : List Int) (k : Int), vs = [.ref a, .int k] ∧ SqL K H a (ns.map V.int) ∧ 0 ≤ k ∧ ∀ v : Int, Q (.int v) H
theorem ok__law_cell (T : Txt P w K mg base) : DefOk P w K mg base "_law_cell" ["script", "k"] 1 (sp_cell K) := by
  refine DefOk.by T.d__law_cell sc__law_cell oc__law_cell (fun vs H Q E h => ?_) (fun X e1 e2 e3 e4 e5 C H vs Q E h => ?_)
  · obtain ⟨a, ns, k, rfl, _⟩ := h; rfl
  · obtain ⟨a, ns, k, rfl, hS, h0, q⟩ := h
    wtm_at "go"
    wtm_at "w"
    refine ite_d (fun h => ?_) (fun h => ?_)
    · rw [List.length_map] at h
      wtm_at "w"
      have hk : k.toNat < ns.length := by omega
      exact vx_lst hS (at_map h0 (List.getElem?_eq_getElem hk)) (q _)
    · wtm_at "w"
      exact q _
/-! _law_is_integer -/
def sp_isint : Sp := fun vs H Q _ => ∃ v : Int, vs = [.int v] ∧ Q (.bl true) H
theorem ok__law_is_integer (T : Txt P w K mg base) : DefOk P w K mg base "_law_is_integer" ["told"] 1 sp_isint := by
  refine DefOk.by T.d__law_is_integer sc__law_is_integer oc__law_is_integer (fun vs H Q E h => ?_) (fun X e1 e2 e3 e4 e5 C H vs Q E h => ?_)
  · obtain ⟨v, rfl, _⟩ := h; rfl
  · obtain ⟨v, rfl, q⟩ := h
    wtm_at "go"
    wtm_at "w"
    refine vc_isi (t := "int") (u := true) (.base (.int v)) (by decide +kernel) ?_
    wtm_at "w"
    refine vc_isi (t := "int") (u := false) (.base (.int v)) (by decide +kernel) ?_
    wtm_at "w"
    exact q
/-! _law_same -/
mutual
def plainD : PyData → Prop
  | .none | .bool _ | .int _ => True
  | .str _ | .dict _ => False
  | .list ds | .tuple ds => ds.length ≤ 100000 ∧ plainAll ds
def plainAll : List PyData → Prop
  | [] => True
  | d :: ds => plainD d ∧ plainAll ds
end
theorem plain_at : ∀ {ds : List PyData} {i : Nat} {d : PyData}, plainAll ds → ds[i]? = some d → plainD d
  | [], _, _, _, e => by simp at e
  | x :: xs, 0, d, h, e => by
    have e' : x = d := by simpa using e
    rw [plainAll] at h; rw [← e']; exact h.1
  | x :: xs, i + 1, d, h, e => by rw [plainAll] at h; exact plain_at (ds := xs) h.2 (by simpa using e)
theorem plain_ints : ∀ ns : List Int, plainAll (ns.map PyData.int)
  | [] => by simp [plainAll]
  | n :: ns => by simp [plainAll, plainD, plain_ints ns]
def sp_same (n : Nat) (K : PySem.W.Frag) : Sp := fun vs H Q _ => ∃ (t u : V) (d : PyData), vs = [t, u] ∧ Dp K H t d ∧ Dp K H u d ∧ d.depth ≤ n ∧ plainD d ∧ Q (.bl true) H
theorem same_by (T : Txt P w K mg base) (n : Nat) (ih : 0 < n → DefOk P w K mg base "_law_same" ["told", "due"] (n + 1) (sp_same (n - 1) K)) : DefOk P w K mg base "_law_same" ["told", "due"] (n + 1 + 1) (sp_same n K) := by
  refine DefOk.by T.d__law_same sc__law_same oc__law_same (fun vs H Q E h => ?_) (fun X e1 e2 e3 e4 e5 C H vs Q E h => ?_)
  · obtain ⟨t, u, d, rfl, _⟩ := h; rfl
  · obtain ⟨t, u, d, rfl, ht, hu, hd, hp, q⟩ := h
    subst e1; subst e2; subst e3; subst e4; subst e5
    have tail : ∀ (p p' : Addr) (xs ys : List V) (ds : List PyData), Sq X.K H p xs → Sq X.K H p' ys → DpAll X.K H xs ds → DpAll X.K H ys ds → 0 < n → PyData.depthAll ds ≤ n - 1 → plainAll ds → ds.length ≤ 100000 →
        XB X ((defBody s__law_same).drop 6) (fun _ H' => Q .non H') ⟨Q, fun _ _ => False, fun _ _ => False⟩ [some (.ref p), some (.ref p'), none] H := by
      intro p p' xs ys ds hx hy ax ay hn hdd hpp hll
      have lx := dpAll_len ax
      have ly := dpAll_len ay
      refine xb_cons ?_
      wtm_at "w"
      refine vc_lenS hx ?_
      wtm_at "w"
      refine vc_lenS hy ?_
      wtm_at "w"
      refine ite_nd (fun h => absurd (by omega) h) (fun _ => ?_)
      wtm_at "w"
      refine xs_forR1 (by assumption) (by wtm_at "m") T.b_range ?_
      wtm_at "w"
      refine vc_lenS hy ?_
      wtm_at "w"
      refine ⟨_, rfl, by omega, by omega, fun i σ H' => ∃ vk, σ = [some (.ref p), some (.ref p'), vk] ∧ H' = H, ⟨_, rfl, rfl⟩, ?_, ?_⟩
      · rintro i σ' H' hi ⟨vk, rfl, rfl⟩
        have hi' : i < ds.length := by omega
        obtain ⟨v, h1, h2⟩ := dpAll_at ax (List.getElem?_eq_getElem hi')
        obtain ⟨v', h3, h4⟩ := dpAll_at ay (List.getElem?_eq_getElem hi')
        have hdi := depth_at (List.getElem?_eq_getElem hi')
        wtm_at "w"
        refine xe_call (by assumption) (ih hn) (by wtm_at "m") (by omega) ?_
        wtm_at "w"
        refine vx_S hx (atI_nat h1) ?_
        wtm_at "w"
        refine vx_S hy (atI_nat h3) ?_
        wtm_at "w"
        refine ⟨v, v', _, rfl, h2, h4, by omega, plain_at hpp (List.getElem?_eq_getElem hi'), ?_⟩
        wtm_at "w"
        exact ⟨_, rfl, rfl⟩
      · rintro σ' H' ⟨vk, rfl, rfl⟩
        wtm_at "w"
        exact q
    simp only [st0]
    refine xb_cons ?_
    cases hu with
    | non =>
      cases ht
      wtm_at "w"
      refine ite_d (fun _ => ?_) (fun h => absurd rfl h)
      wtm_at "w"
      simpa using q
    | bl b =>
      cases ht
      wtm_at "w"
      refine ite_d (fun h => nomatch h) (fun _ => ?_)
      wtm_at "w"
      refine vc_isi (t := "bool") (u := true) (.base (.bl _)) (by decide +kernel) ?_
      wtm_at "w"
      refine vc_isi (t := "bool") (u := true) (.base (.bl _)) (by decide +kernel) ?_
      wtm_at "w"
      simpa using q
    | int i =>
      cases ht
      wtm_at "w"
      refine ite_d (fun h => nomatch h) (fun _ => ?_)
      wtm_at "w"
      refine vc_isi (t := "int") (u := false) (.base (.int _)) (by decide +kernel) ?_
      wtm_at "w"
      refine vc_isi (t := "int") (u := true) (.base (.int _)) (by decide +kernel) ?_
      wtm_at "w"
      refine ⟨i, rfl, ?_⟩
      wtm_at "w"
      simpa using q
    | str x => simp [plainD] at hp
    | lst hy ay =>
      cases ht with
      | lst hx ax =>
        rw [plainD] at hp
        rw [PyData.depth] at hd
        wtm_at "w"
        refine ite_d (fun h => nomatch h) (fun _ => ?_)
        wtm_at "w"
        refine vc_isi (t := "list") (u := false) (ty_L hy) (by decide +kernel) ?_
        wtm_at "w"
        refine vc_isi (t := "list") (u := false) (ty_L hy) (by decide +kernel) ?_
        wtm_at "w"
        refine vc_isi (t := "list") (u := false) (ty_L hy) (by decide +kernel) ?_
        wtm_at "w"
        refine vc_isi (t := "list") (u := false) (ty_L hy) (by decide +kernel) ?_
        wtm_at "w"
        refine vc_isi (t := "list") (u := true) (ty_L hy) (by decide +kernel) ?_
        wtm_at "w"
        refine vc_isi (t := "list") (u := true) (ty_L hx) (by decide +kernel) ?_
        refine vt_bl (ite_NT (xb_nil ?_))
        exact tail _ _ _ _ _ (.inl hx) (.inl hy) ax ay (by omega) (by omega) hp.2 hp.1
    | tup hy ay =>
      cases ht with
      | tup hx ax =>
        rw [plainD] at hp
        rw [PyData.depth] at hd
        wtm_at "w"
        refine ite_d (fun h => nomatch h) (fun _ => ?_)
        wtm_at "w"
        refine vc_isi (t := "tuple") (u := false) (ty_T hy) (by decide +kernel) ?_
        wtm_at "w"
        refine vc_isi (t := "tuple") (u := false) (ty_T hy) (by decide +kernel) ?_
        wtm_at "w"
        refine vc_isi (t := "tuple") (u := false) (ty_T hy) (by decide +kernel) ?_
        wtm_at "w"
        refine vc_isi (t := "tuple") (u := true) (ty_T hy) (by decide +kernel) ?_
        wtm_at "w"
        refine vc_isi (t := "tuple") (u := true) (ty_T hx) (by decide +kernel) ?_
        wtm_at "w"
        refine vc_isi (t := "tuple") (u := false) (ty_T hy) (by decide +kernel) ?_
        refine vt_bl (L2.iteF (L2.iteF (xb_nil ?_)))
        exact tail _ _ _ _ _ (.inr hx) (.inr hy) ax ay (by omega) (by omega) hp.2 hp.1
theorem same_ok (T : Txt P w K mg base) : ∀ n, DefOk P w K mg base "_law_same" ["told", "due"] (n + 1 + 1) (sp_same n K)
  | 0 => same_by T 0 fun h => absurd h (by omega)
  | n + 1 => same_by T (n + 1) fun _ => same_ok T n
theorem ok__law_same (T : Txt P w K mg base) : DefOk P w K mg base "_law_same" ["told", "due"] 5 (sp_same 3 K) := same_ok T 3
/-! data -/
theorem canLay_bls : ∀ bs : List Bool, PyData.canLayAll0 (bs.map PyData.bool) = true
  | [] => by simp [PyData.canLayAll0]
  | n :: ns => by simp [PyData.canLayAll0, PyData.canLay0, canLay_bls ns]
theorem depth_bls : ∀ bs : List Bool, PyData.depthAll (bs.map PyData.bool) = 0
  | [] => by simp [PyData.depthAll]
  | n :: ns => by simp [PyData.depthAll, PyData.depth, depth_bls ns]
theorem plain_bls : ∀ bs : List Bool, plainAll (bs.map PyData.bool)
  | [] => by simp [plainAll]
  | n :: ns => by simp [plainAll, plainD, plain_bls ns]
theorem dpAll_bls {K : PySem.W.Frag} {H : Hp} : ∀ bs : List Bool, DpAll K H (bs.map V.bl) (bs.map PyData.bool)
  | [] => .nil
  | n :: ns => .cons (.bl n) (dpAll_bls ns)
theorem dp_B {K : PySem.W.Frag} {H : Hp} {p : Addr} {bs : List Bool} (h : SqL K H p (bs.map V.bl)) : Dp K H (.ref p) (.list (bs.map PyData.bool)) := .lst h (dpAll_bls bs)
theorem plB (bs : List Bool) (h : bs.length ≤ 100000) : plainD (.list (bs.map PyData.bool)) ∧ (PyData.list (bs.map PyData.bool)).depth ≤ 3 := by
  rw [plainD, PyData.depth, depth_bls, List.length_map]
  exact ⟨⟨h, plain_bls bs⟩, by decide⟩
theorem plT (ns : List Int) (h : ns.length ≤ 100000) : plainD (.tuple (ns.map PyData.int)) ∧ (PyData.tuple (ns.map PyData.int)).depth ≤ 3 := by
  rw [plainD, PyData.depth, depth_ints, List.length_map]
  exact ⟨⟨h, plain_ints ns⟩, by decide⟩
theorem plL (ns : List Int) (h : ns.length ≤ 100000) : plainD (.list (ns.map PyData.int)) ∧ (PyData.list (ns.map PyData.int)).depth ≤ 3 := by
  rw [plainD, PyData.depth, depth_ints, List.length_map]
  exact ⟨⟨h, plain_ints ns⟩, by decide⟩
theorem plI (n : Int) : plainD (.int n) ∧ (PyData.int n).depth ≤ 3 := by
  rw [plainD, PyData.depth]; exact ⟨trivial, by decide⟩
theorem sh2 (as bs : List Int) : SeqAt.shaped (.list [.list (as.map PyData.int), .list (bs.map PyData.int)]) = true := by
  simp [SeqAt.shaped, PyData.canLay0, PyData.canLayAll0, PyData.depth, PyData.depthAll, canLay_ints, depth_ints]
/-! _greatest_step -/
def sp_gs : Sp := fun vs H Q _ => ∃ n : Int, vs = [.int n] ∧ Q (.int (Builtin.bitAnd n (-n))) H
theorem ok__greatest_step (T : Txt P w K mg base) : DefOk P w K mg base "_greatest_step" ["number"] 1 sp_gs := by
  refine DefOk.by T.d__greatest_step sc__greatest_step oc__greatest_step (fun vs H Q E h => ?_) (fun X e1 e2 e3 e4 e5 C H vs Q E h => ?_)
  · obtain ⟨v, rfl, _⟩ := h; rfl
  · obtain ⟨v, rfl, q⟩ := h
    wtm_at "go"
    wtm_at "w"
    exact vo_and q
/-! _law_backs -/
def sp_lb : Sp := fun vs H Q _ => ∃ n : Int, vs = [.int n] ∧ 0 ≤ n ∧ n < 2 ^ 69 ∧ ∀ p H', Kp [] H H' → H p = none → H' p = some (.lst ((bkTo n (cntB n)).map V.int)) → Q (.ref p) H'
theorem ok__law_backs (T : Txt P w K mg base) : DefOk P w K mg base "_law_backs" ["number"] 1 sp_lb := by
  refine DefOk.by T.d__law_backs sc__law_backs oc__law_backs (fun vs H Q E h => ?_) (fun X e1 e2 e3 e4 e5 C H vs Q E h => ?_)
  · obtain ⟨v, rfl, _⟩ := h; rfl
  · obtain ⟨n, rfl, h0, h1, q⟩ := h
    have hc := cnt_le (m := 69) h0 h1
    wtm_at "go"
    wtm_at "w"
    intro L H2 k2 nL hL
    wtm_at "w"
    refine xs_forR1 (by assumption) (by wtm_at "m") T.b_range ?_
    wtm_at "w"
    refine ⟨70, rfl, by decide, by decide, fun i σ H' => ∃ vt, σ = [some (.int n), some (.ref L), some (.int (2 ^ i)), vt] ∧ Kp [] H H' ∧ H' L = some (.lst ((bkTo n i).map V.int)) ∧ i ≤ cntB n, ⟨_, rfl, k2, hL, by omega⟩, ?_, ?_⟩
    · rintro i σ' H3 hi ⟨vt, rfl, k3, e3, ci⟩
      have pp : (0 : Int) < 2 ^ i := by rw [← cast_pow]; exact_mod_cast Nat.pow_pos (by decide)
      have cl := cnt_lt h0 i
      wtm_at "w"
      refine ite_d (fun h => ?_) (fun h => ?_)
      · wtm_at "w"
        have e : i = cntB n := by
          by_cases z : i < cntB n
          · have := (cl.mp z).1; omega
          · omega
        exact q L H3 k3 nL (by rw [e3, e])
      · wtm_at "w"
        refine vo_mod pp ?_
        wtm_at "w"
        refine ite_nd (fun h' => ?_) (fun h' => ?_)
        · wtm_at "w"
          have e : i = cntB n := by
            by_cases z : i < cntB n
            · exact absurd (cl.mp z).2 h'
            · omega
          exact q L H3 k3 nL (by rw [e3, e])
        · have z : i < cntB n := cl.mpr ⟨by omega, h'⟩
          wtm_at "w"
          refine ⟨e3, szl (by rw [List.length_map, bkTo_len]; omega), fun H4 k4 e4 => ?_⟩
          wtm_at "w"
          refine vo_mul (cmulR ⟨by decide, by decide⟩) ?_
          wtm_at "w"
          refine ⟨_, by rw [Int.pow_succ], k3.tr1 k4 (.inr nL), ?_, z⟩
          rw [e4, bkTo_succ, List.map_append]; rfl
    · rintro σ' H3 ⟨vt, rfl, k3, e3, ci⟩
      have : (70 : Int).toNat = 70 := rfl
      omega
/-! way_back -/
def sp_wb : Sp := fun vs H Q _ => ∃ s e : Int, vs = [.int s, .int e] ∧ 0 ≤ e ∧ e ≤ s ∧ s < 2 ^ 60 ∧ ∀ p H', Kp [] H H' → H' p = some (.lst ((s :: gt 130 s e).map V.int)) → Q (.ref p) H'
theorem ok_way_back (T : Txt P w K mg base) : DefOk P w K mg base "way_back" ["start", "end"] 2 sp_wb := by
  refine DefOk.by T.d_way_back sc_way_back oc_way_back (fun vs H Q E h => ?_) (fun X e1 e2 e3 e4 e5 C H vs Q E h => ?_)
  · obtain ⟨s, e, rfl, _⟩ := h; rfl
  · obtain ⟨s, e, rfl, e0, es, s60, q⟩ := h
    wtm_at "go"
    wtm_at "w"
    intro L H1 k1 nL hL
    wtm_at "w"
    refine xs_while (by assumption) (fun m σ H' => ∃ (n : Int) (ps : List Int) (v : Option V), σ = [some (.int s), some (.int e), some (.ref L), some (.int n), v] ∧ e ≤ n ∧ n ≤ s ∧ mz n e ≤ m ∧ s :: gt 130 s e = ps ++ gt m n e ∧ H' L = some (.lst (ps.map V.int)) ∧ Kp [] H H') ⟨130, s, [s], none, rfl, es, Int.le_refl _, mz_le e0 es s60, rfl, hL, k1⟩ ?_
    rintro m σ' H2 ⟨n, ps, v, rfl, en, ns, hm, eq, h2, k2⟩
    have lp : ps.length ≤ 131 := by
      have a := congrArg List.length eq
      have b := gt_len 130 s e
      rw [List.length_append, List.length_cons] at a; omega
    wtm_at "w"
    refine vc_max2 (by assumption) ?_
    rw [if_neg (by omega)]
    wtm_at "w"
    refine ite_d (fun h => ?_) (fun h => ?_)
    · have n60 : n < 2 ^ 60 := by omega
      have mp := mz_pos e0 h n60
      have ml := mz_lt e0 h n60
      obtain ⟨m', rfl⟩ : ∃ m', m = m' + 1 := ⟨m - 1, by omega⟩
      have B60 : Builtin.Int.intBits (n - e) ≤ 60 := bits_le (by omega) (by omega)
      have B0 : 0 < Builtin.Int.intBits (n - e) := by have := jj_pos e0 h; unfold jj at this; omega
      rw [gt_go h] at eq
      wtm_at "w"
      refine xe_bits ?_
      wtm_at "w"
      refine vo_shl ⟨by omega, by omega, by decide⟩ ?_
      wtm_at "w"
      refine ⟨n, rfl, ?_⟩
      wtm_at "w"
      refine vc_min2 (by assumption) ?_
      have sm := step_min e0 h
      have ee : (1 : Int) * 2 ^ ((Builtin.Int.intBits (n - e) : Int) - 1).toNat = 2 ^ (Builtin.Int.intBits (n - e) - 1) := by
        rw [Int.one_mul]; congr 1; omega
      rw [ee, sm]
      wtm_at "w"
      refine ⟨h2, szl (by rw [List.length_map]; omega), fun H3 k3 h3 => ?_⟩
      wtm_at "w"
      have sl := st1_lt (n := n) (e := e)
      refine ⟨m', by omega, st1 n e, ps ++ [st1 n e], _, rfl, st1_ge e0 h, by omega, by omega, ?_, ?_, k2.tr1 k3 (.inr nL)⟩
      · rw [eq, List.append_assoc]; rfl
      · rw [h3, List.map_append]; rfl
    · rw [gt_end (k := m) (n := n) (by omega), List.append_nil] at eq
      wtm_at "w"
      exact q L H2 k2 (by rw [eq]; exact h2)
/-! _law_greedy -/
theorem bkTo_min (n e : Int) (t : Nat) (b : Nat) (h : t < b) : bkTo n (min (t + 1) b) = bkTo n (min t b) ++ [n - 2 ^ t] := by
  rw [Nat.min_eq_left (by omega), Nat.min_eq_left (by omega), bkTo_succ]
def sp_lg : Sp := fun vs H Q _ => ∃ s e : Int, vs = [.int s, .int e] ∧ 0 ≤ e ∧ e ≤ s ∧ s < 2 ^ 60 ∧ ∀ p H', Kp [] H H' → H' p = some (.lst ((s :: gt 130 s e).map V.int)) → Q (.ref p) H'
theorem ok__law_greedy (T : Txt P w K mg base) : DefOk P w K mg base "_law_greedy" ["start", "end"] 2 sp_lg := by
  refine DefOk.by T.d__law_greedy sc__law_greedy oc__law_greedy (fun vs H Q E h => ?_) (fun X e1 e2 e3 e4 e5 C H vs Q E h => ?_)
  · obtain ⟨s, e, rfl, _⟩ := h; rfl
  · obtain ⟨s, e, rfl, e0, es, s60, q⟩ := h
    wtm_at "go"
    wtm_at "w"
    intro L H1 k1 nL hL
    wtm_at "w"
    refine xs_forR1 (by assumption) (by wtm_at "m") T.b_range ?_
    wtm_at "w"
    refine ⟨130, rfl, by decide, by decide, fun i σ H' => ∃ (n : Int) (ps : List Int) (v : Option V), σ = [some (.int s), some (.int e), some (.ref L), v, none] ∧ e ≤ n ∧ n ≤ s ∧ i ≤ 130 ∧ s :: gt 130 s e = ps ++ gt (130 - i) n e ∧ ps.getLast? = some n ∧ H' L = some (.lst (ps.map V.int)) ∧ Kp [] H H', ⟨s, [s], none, rfl, es, Int.le_refl _, by omega, rfl, rfl, hL, k1⟩, ?_, ?_⟩
    · rintro i σ' H2 hi ⟨n, ps, v, rfl, en, ns, i130, eq, gl, h2, k2⟩
      have hi' : i < 130 := hi
      have lp : ps.length ≤ 131 := by
        have a := congrArg List.length eq
        have b := gt_len 130 s e
        rw [List.length_append, List.length_cons] at a; omega
      have gv : (ps.map V.int).getLast? = some (.int n) := by rw [List.getLast?_map, gl]; rfl
      wtm_at "w"
      refine vx_lst (Z.SqL.of' h2) (at_getLast gv) ?_
      wtm_at "w"
      refine ite_d (fun h => ?_) (fun h => ?_)
      · have n60 : n < 2 ^ 60 := by omega
        have B60 : Builtin.Int.intBits (n - e) ≤ 60 := bits_le (by omega) (by omega)
        have hc := cnt_le (m := 60) (n := n) (by omega) n60
        rw [show 130 - i = (130 - (i + 1)) + 1 by omega, gt_go h] at eq
        wtm_at "w"
        refine xe_lc (by assumption) ?_
        refine xlc_L (Vs' := ["end", "one"]) (G' := []) (nm := "one") (i := 4) (by assumption) ⟨rfl, by decide +kernel, by decide +kernel, rfl, by decide +kernel, by decide⟩ ?_
        wtm_at "w"
        refine vx_lst (Z.SqL.of' h2) (at_getLast gv) ?_
        wtm_at "w"
        refine ⟨n, rfl, by omega, by omega, fun p H3 k3 np hp => ?_⟩
        refine ⟨p, _, rfl, Z.SqL.of' hp, fun M H4 k4 nM hM => ?_⟩
        have npM : p ≠ M := ne_of_none hp nM
        have nLM : L ≠ M := ne_of_none (k3.at0 h2) nM
        refine ⟨fun t H' => Kp [M] H4 H' ∧ H' M = some (.lst ((bkTo n (min t (Builtin.Int.intBits (n - e)))).map V.int)), ⟨Kp.refl _ _, by rw [hM]; simp [bkTo]⟩, ?_, ?_, ?_⟩
        · rintro t H' _ ⟨k, _⟩
          exact Z.SqL.of' (k.at1 npM (k4.at0 hp))
        · rintro t y H5 hy ⟨k5, h5⟩
          obtain ⟨x, hx, rfl⟩ := map_at hy
          have ht : t < cntB n := by
            have := (List.getElem?_eq_some_iff.mp hx).1
            rw [bkTo_len] at this; exact this
          have ex : x = n - 2 ^ t := by
            unfold bkTo at hx
            rw [List.getElem?_map, List.getElem?_range ht] at hx
            exact (Option.some.inj hx).symm
          refine ⟨_, by wtm_at "u", ?_⟩
          intro s0 H0 c cl fp C'
          have bi := bits_iff (d := n - e) (by omega) t
          wtm_at "w"
          refine ite_d (fun hq => ?_) (fun hq => ?_)
          · have tb : t < Builtin.Int.intBits (n - e) := bi.mpr (by omega)
            intro s0 H0 c cl fp C'
            wtm_at "w"
            refine ⟨_, h5, szl (by rw [List.length_map, bkTo_len]; omega), fun H6 k6 h6 => ⟨k5.tr1 k6 (.inl (by simp)), ?_⟩⟩
            rw [h6, bkTo_min n e t _ tb, List.map_append, ex]; rfl
          · have tb : ¬ t < Builtin.Int.intBits (n - e) := fun z => by have := bi.mp z; omega
            refine ⟨k5, ?_⟩
            rw [h5, Nat.min_eq_right (by omega), Nat.min_eq_right (by omega)]
        · rintro H5 ⟨k5, h5⟩
          rw [List.length_map, bkTo_len] at h5
          have jp := jj_pos e0 h
          have h5' : H5 M = some (.lst ((bkTo n (jj n e)).map V.int)) := h5
          wtm_at "w"
          refine vc_minL (by assumption) (Z.SqL.of' h5') (by rw [bkTo_len]; exact jp) (fun m hm hmin => ?_)
          have em := bk_min e0 h hm hmin
          subst em
          have hL5 := k5.at1 nLM (k4.at0 (k3.at0 h2))
          wtm_at "w"
          refine ⟨hL5, szl (by rw [List.length_map]; omega), fun H6 k6 h6 => ?_⟩
          wtm_at "w"
          have sl := st1_lt (n := n) (e := e)
          have kA : Kp [] H H5 := (((k2.tr0 k3).tr0 k4).tr1 k5 (.inr ((k2.tr0 k3).n _ nM)))
          refine ⟨st1 n e, ps ++ [st1 n e], _, rfl, st1_ge e0 h, by omega, by omega, ?_, by simp, ?_, kA.tr1 k6 (.inr nL)⟩
          · rw [eq, List.append_assoc]; rfl
          · rw [h6, List.map_append]; rfl
      · have eq' := eq
        rw [gt_end (k := 130 - i) (n := n) (by omega)] at eq'
        wtm_at "w"
        exact ⟨n, ps, _, rfl, en, ns, by omega, by rw [eq', gt_end (k := 130 - (i + 1)) (n := n) (by omega)], gl, h2, k2⟩
    · rintro σ' H2 ⟨n, ps, v, rfl, en, ns, i130, eq, gl, h2, k2⟩
      rw [show 130 - (130 : Int).toNat = 0 from rfl] at eq
      rw [show gt 0 n e = [] from rfl, List.append_nil] at eq
      wtm_at "w"
      exact q L H2 k2 (by rw [eq]; exact h2)
/-! _law_fewest -/
theorem bin_cons (x one : Int) (ps : List (Int × Int)) (r : List Int) : bin x ps (one :: r) = bin x (if (lk ps one).isSome then ps else ps ++ [(one, (lk ps x).getD 0 + 1)]) r := by rw [bin]
theorem bin_nil (x : Int) (ps : List (Int × Int)) : bin x ps [] = ps := by rw [bin]
theorem bst_at {t : Nat} {ps : List (Int × Int)} {p : Int × Int} (h : ps[t]? = some p) : bst t ps = bin p.1 ps (bkTo p.1 (cntB p.1)) := by unfold bst; rw [h]
theorem bst_no {t : Nat} {ps : List (Int × Int)} (h : ps.length ≤ t) : bst t ps = ps := by unfold bst; rw [List.getElem?_eq_none h]
def sp_lf : Sp := fun vs H Q _ => ∃ s e : Int, vs = [.int s, .int e] ∧ 0 ≤ e ∧ e ≤ s ∧ s ≤ 40 ∧ ∀ H', Kp [] H H' → Q (.int ((gt 130 s e).length : Nat)) H'
theorem ok__law_fewest (T : Txt P w K mg base) : DefOk P w K mg base "_law_fewest" ["start", "end"] 2 sp_lf := by
  refine DefOk.by T.d__law_fewest sc__law_fewest oc__law_fewest (fun vs H Q E h => ?_) (fun X e1 e2 e3 e4 e5 C H vs Q E h => ?_)
  · obtain ⟨s, e, rfl, _⟩ := h; rfl
  · obtain ⟨s, e, rfl, e0, es, s40, q⟩ := h
    wtm_at "go"
    wtm_at "w"
    refine xe_disp1 (fun d H1 k1 nd hd1 => ?_)
    wtm_at "w"
    refine ⟨hd1, .inl s, rfl, fun H2 k2 hd2 => ?_⟩
    wtm_at "w"
    intro L H3 k3 nL hL
    have k13 : Kp [] H H3 := (k1.tr1 k2 (.inr nd)).tr0 k3
    have ndL : d ≠ L := ne_of_none hd2 nL
    have nL0 : H L = none := (k1.tr1 k2 (.inr nd)).n _ nL
    wtm_at "w"
    refine xs_forR1 (by assumption) (by wtm_at "m") T.b_range ?_
    wtm_at "w"
    refine ⟨42, rfl, by decide, by decide, fun t σ H' => ∃ (ps : List (Int × Int)) (v4 v5 : Option V), σ = [some (.int s), some (.int e), some (.ref d), some (.ref L), v4, v5] ∧ ps = bto t s ∧ ps.length ≤ 1 + 70 * t ∧ t ≤ 42 ∧ (∀ p ∈ ps, 0 ≤ p.1 ∧ p.1 ≤ 40) ∧ H' d = some (.dK (kvsI ps)) ∧ H' L = some (.lst (keysI ps)) ∧ Kp [] H H',
      ⟨[(s, 0)], none, none, rfl, rfl, by simp, by omega, by intro p hp; rw [List.mem_singleton.mp hp]; exact ⟨by show 0 ≤ s; omega, s40⟩, k3.at0 hd2, hL, k13⟩, ?_, ?_⟩
    · rintro t σ' H4 ht ⟨ps, v4, v5, rfl, eps, lps, t42, gps, hd4, hL4, k4⟩
      have ht' : t < 42 := ht
      wtm_at "w"
      refine ite_d (fun h => ?_) (fun h => ?_)
      · have tp : t < ps.length := by unfold keysI at h; rw [List.length_map] at h; omega
        have gp : ps[t]? = some ps[t] := List.getElem?_eq_getElem tp
        generalize ps[t] = p at gp
        obtain ⟨x, c⟩ := p
        have gx := gps (x, c) (List.mem_of_getElem? gp)
        have gk : (keysI ps)[t]? = some (.int x) := by unfold keysI; rw [List.getElem?_map, gp]; rfl
        have hc := cnt_le (m := 60) (n := x) (by omega) (by omega)
        wtm_at "w"
        refine xs_forL (by assumption) ?_
        wtm_at "w"
        refine vx_lst (Z.SqL.of' hL4) (at_nat gk) ?_
        wtm_at "w"
        refine ⟨x, rfl, gx.1, by omega, fun a H5 k5 na ha => ?_⟩
        have nda : d ≠ a := ne_of_none hd4 na
        have nLa : L ≠ a := ne_of_none hL4 na
        refine ⟨a, _, rfl, Z.SqL.of' ha, fun i σ H' => ∃ (qs : List (Int × Int)) (v5 : Option V), σ = [some (.int s), some (.int e), some (.ref d), some (.ref L), some (.int t), v5] ∧ bto (t + 1) s = bin x qs ((bkTo x (cntB x)).drop i) ∧ qs.length ≤ 1 + 70 * t + i ∧ (∀ p ∈ qs, 0 ≤ p.1 ∧ p.1 ≤ 40) ∧ (∃ c', lk qs x = some c') ∧ (keysI qs)[t]? = some (.int x) ∧ H' d = some (.dK (kvsI qs)) ∧ H' L = some (.lst (keysI qs)) ∧ H' a = some (.lst ((bkTo x (cntB x)).map V.int)) ∧ Kp [] H H', ?_, ?_, ?_, ?_⟩
        · refine ⟨ps, _, rfl, ?_, by omega, gps, Option.isSome_iff_exists.mp (lk_mem (List.mem_of_getElem? gp)), gk, k5.at0 hd4, k5.at0 hL4, ha, k4.tr0 k5⟩
          show bst t (bto t s) = _
          rw [← eps, bst_at gp]; rfl
        · rintro i σ' H' _ ⟨qs, v5, rfl, _, _, _, _, _, _, _, h, _⟩
          exact Z.SqL.of' h
        · rintro i y σ' H6 hy ⟨qs, v5, rfl, eq, lq, gq, ⟨c', hc'⟩, gk6, hd6, hL6, ha6, k6⟩
          obtain ⟨one, ho, rfl⟩ := map_at hy
          have hi : i < cntB x := by
            have := (List.getElem?_eq_some_iff.mp ho).1
            rw [bkTo_len] at this; exact this
          have eo : one = x - 2 ^ i := by
            unfold bkTo at ho
            rw [List.getElem?_map, List.getElem?_range hi] at ho
            exact (Option.some.inj ho).symm
          have ob := (cnt_lt gx.1 i).mp hi
          have op := pow_pos2 i
          rw [drop_at ho, bin_cons] at eq
          have lq2 : qs.length < 3100 := by omega
          refine xg_name (by assumption) (by wtm_at "m") (by wtm_at "m") ?_
          refine ⟨_, by wtm_at "u", ?_⟩
          refine xb_cons ?_
          refine xs_if ?_
          refine xt_dnotin (by assumption) ?_
          wtm_at "w"
          refine ⟨d, _, rfl, .inl ⟨_, .inl one, .inl hd6, rfl, rfl⟩, ?_⟩
          rw [valV_kvsI]
          cases ho2 : lk qs one with
          | some z =>
            rw [ho2] at eq
            refine L2.iteF ?_
            wtm_at "w"
            refine ⟨qs, _, rfl, eq, by omega, gq, ⟨c', hc'⟩, gk6, hd6, hL6, ha6, k6⟩
          | none =>
            rw [ho2, hc'] at eq
            have vn : valV (kvsI qs) (.inl one) = none := by rw [valV_kvsI, ho2]; rfl
            refine L2.iteT ?_
            refine xb_cons ?_
            refine xs_dput (by assumption) ?_
            refine xe_bin ?_
            refine xe_dget (by assumption) ?_
            wtm_at "w"
            refine vx_lst (Z.SqL.of' hL6) (at_nat gk6) ?_
            refine ⟨d, .int c', rfl, .inl ⟨_, .inl x, .inl hd6, rfl, by rw [valV_kvsI, hc']; rfl⟩, ?_⟩
            wtm_at "w"
            refine ⟨d, _, .inl one, rfl, rfl, hd6, szl (by unfold kvsI; rw [List.length_map]; omega), fun H7 k7 hd7 => ?_⟩
            have nda : d ≠ a := ne_of_none hd4 na
            have hL7 := k7.at1 (Ne.symm ndL) hL6
            have ha7 := k7.at1 (Ne.symm nda) ha6
            wtm_at "w"
            refine ⟨hL7, szl (by unfold keysI; rw [List.length_map]; omega), fun H8 k8 hL8 => ?_⟩
            wtm_at "w"
            have hd8 := k8.at1 ndL hd7
            rw [putK_new _ vn] at hd8
            have nd0 : H d = none := nd
            refine ⟨qs ++ [(one, c' + 1)], _, rfl, eq, by rw [List.length_append, List.length_cons, List.length_nil]; omega, ?_, ⟨c', by rw [lk_app, hc']; rfl⟩, ?_, ?_, ?_, k8.at1 (Ne.symm nLa) ha7, (k6.tr1 k7 (.inr nd0)).tr1 k8 (.inr nL0)⟩
            · intro p hp
              rcases List.mem_append.mp hp with m | m
              · exact gq p m
              · rw [List.mem_singleton.mp m]
                show 0 ≤ one ∧ one ≤ 40
                omega
            · unfold keysI at gk6 ⊢
              rw [List.map_append, List.getElem?_append_left (List.getElem?_eq_some_iff.mp gk6).1]
              exact gk6
            · rw [hd8]; unfold kvsI; rw [List.map_append]; rfl
            · rw [hL8]; unfold keysI; rw [List.map_append]; rfl
        · rintro σ' H6 ⟨qs, v5, rfl, eq, lq, gq, _, gk6, hd6, hL6, ha6, k6⟩
          rw [List.length_map, bkTo_len, List.drop_eq_nil_of_le (by rw [bkTo_len]; omega), bin_nil] at eq
          rw [List.length_map, bkTo_len] at lq
          wtm_at "w"
          exact ⟨qs, _, _, rfl, eq.symm, by omega, by omega, gq, hd6, hL6, k6⟩
      · have tp : ps.length ≤ t := by unfold keysI at h; rw [List.length_map] at h; omega
        wtm_at "w"
        refine ⟨ps, _, _, rfl, ?_, by omega, by omega, gps, hd4, hL4, k4⟩
        show ps = bst t (bto t s)
        rw [← eps, bst_no tp]
    · rintro σ' H4 ⟨ps, v4, v5, rfl, eps, lps, t42, gps, hd4, hL4, k4⟩
      have fw := few e0 es s40
      rw [show bto 42 s = ps from eps.symm] at fw
      refine xb_cons ?_
      refine xs_ret ?_
      refine xe_dget (by assumption) ?_
      wtm_at "w"
      refine ⟨d, _, rfl, .inl ⟨_, .inl e, .inl hd4, rfl, by rw [valV_kvsI, fw]; rfl⟩, q H4 k4⟩
/-! law -/
theorem abs_nn (c : Int) : 0 ≤ (if c < 0 then -c else c) := by split <;> omega
theorem getLast_ints {ns : List Int} {n : Int} (h : ns.getLast? = some n) : (ns.map V.int).getLast? = some (.int n) := by rw [List.getLast?_map, h]; rfl
theorem fn_law {f : Addr} {fd : FuncData} (T : Txt P w K mg base) (F : Fun K "law" "law" s_law f fd) : FnOk P w K mg base CX0 12 f fd ["script"] (sp_law K) := by
  refine fnOk_by F sc_law oc_law (fun vs H Q E h => ?_) (fun X e1 e2 e3 e4 e5 C H vs Q E h => ?_)
  · obtain ⟨a, ns, rfl, _⟩ := h; rfl
  · obtain ⟨a, ns, rfl, hS, hl, q⟩ := h
    wtm_at "go"
    refine xs_forR1 (by assumption) (by wtm_at "m") T.b_range ?_
    wtm_at "w"
    refine ⟨5, rfl, by decide, by decide, fun i σ H' => ∃ v1 v2 v3 v4 v5, σ = [some (.ref a), v1, v2, v3, v4, v5] ∧ Kp [] H H', ⟨_, _, _, _, _, rfl, Kp.refl _ _⟩, ?_, ?_⟩
    · rintro i σ' H1 hi ⟨v1, v2, v3, v4, v5, rfl, k1⟩
      have hi' : i < 5 := hi
      have rest2 : ∀ (nx : St → Hp → Prop) (D : B3), D.rt = Q → (∀ σ' H', (∃ v1 v2 v3 v4 v5, σ' = [some (.ref a), v1, v2, v3, v4, v5] ∧ Kp [] H H') → nx σ' H') → ∀ (s e : Int) (vt : Option V) (H2 : Hp), 0 ≤ e → e ≤ s → s < 2 ^ 60 → Kp [] H H2 → XB X ((forBody ((defBody s_law).getD 0 (.Pass ⟨0, 0, 0, 0⟩))).drop 6) nx D [some (.ref a), some (.int i), some (.int s), some (.int e), vt, v5] H2 := by
        intro nx D hD hnx s e vt H2 e0 es s60 k2
        have gl := gt_last 130 s e e0 es s60 (mz_le e0 es s60)
        have gc := gt_chain 130 s e e0 es
        have ln := gt_len 130 s e
        refine xb_cons ?_
        wtm_at "w"
        refine ⟨s, e, rfl, e0, es, s60, fun p1 H3 k3 h3 => ?_⟩
        wtm_at "w"
        refine ⟨s, e, rfl, e0, es, s60, fun p2 H4 k4 h4 => ?_⟩
        have h34 := k4.at0 h3
        have pl := plL (s :: gt 130 s e) (by rw [List.length_cons]; omega)
        generalize hR : s :: gt 130 s e = R at *
        have l0 : R[0]? = some s := by rw [← hR]; rfl
        have lR : R.length ≤ 131 := by rw [← hR, List.length_cons]; omega
        wtm_at "w"
        refine ⟨_, _, _, rfl, dp_L (Z.SqL.of' h34), dp_L (Z.SqL.of' h4), pl.2, pl.1, ?_⟩
        wtm_at "w"
        refine vx_lst (Z.SqL.of' h34) (at_map (by decide) l0) ?_
        wtm_at "w"
        refine ite_nd (fun h => absurd rfl h) (fun _ => ?_)
        wtm_at "w"
        refine vx_lst (Z.SqL.of' h34) (at_getLast (getLast_ints gl)) ?_
        wtm_at "w"
        refine ite_nd (fun h => absurd rfl h) (fun _ => ?_)
        wtm_at "w"
        have k24 : Kp [] H H4 := (k2.tr0 k3).tr0 k4
        refine xs_forR1 (by assumption) (by wtm_at "m") T.b_range ?_
        wtm_at "w"
        refine ⟨_, rfl, by rw [List.length_map]; omega, by rw [List.length_map]; omega, fun j σ H' => ∃ v5, σ = [some (.ref a), some (.int i), some (.int s), some (.int e), some (.ref p1), v5] ∧ Kp [] H4 H', ⟨_, rfl, Kp.refl _ _⟩, ?_, ?_⟩
        · rintro j σ' H5 hj ⟨v5, rfl, k5⟩
          rw [List.length_map] at hj
          have j1 : j + 1 < R.length := by omega
          have gx : R[j]? = some R[j] := List.getElem?_eq_getElem (by omega)
          have gy : R[j + 1]? = some R[j + 1] := List.getElem?_eq_getElem j1
          obtain ⟨mem, b1, b2⟩ := gc j _ _ gx gy
          generalize R[j] = x at gx mem b1 b2
          generalize R[j + 1] = y at gy mem
          have h5 := k5.at0 h34
          have hX : (R.map V.int)[j]? = some (.int x) := by rw [List.getElem?_map, gx]; rfl
          have hY : (R.map V.int)[j + 1]? = some (.int y) := by rw [List.getElem?_map, gy]; rfl
          wtm_at "w"
          refine vx_lst (Z.SqL.of' h5) (show atI _ ((j : Int) + 1) = _ from at_nat hY) ?_
          wtm_at "w"
          refine vx_lst (Z.SqL.of' h5) (at_nat hX) ?_
          wtm_at "w"
          refine ⟨x, rfl, by omega, by omega, fun p3 H6 k6 _ h6 => ?_⟩
          wtm_at "w"
          refine vo_notInI (Z.SqL.of' h6) ?_
          wtm_at "w"
          refine ite_nd (fun h => absurd mem h) (fun _ => ?_)
          wtm_at "w"
          exact ⟨_, rfl, k5.tr0 k6⟩
        · rintro σ' H5 ⟨v5, rfl, k5⟩
          wtm_at "w"
          exact hnx _ _ ⟨_, _, _, _, _, rfl, k24.tr0 k5⟩
      have hS1 := k1.lst0 hS
      wtm_at "w"
      refine vo_mul (cmulL (by decide)) ?_
      wtm_at "w"
      refine ⟨a, ns, _, rfl, hS1, by omega, fun c => ?_⟩
      have c0 := abs_nn c
      wtm_at "w"
      generalize hs : ((if c < 0 then -c else c) + (i : Int)) % 41 = s
      have s0 : 0 ≤ s ∧ s < 41 := by omega
      refine vo_mul (cmulL (by decide)) ?_
      wtm_at "w"
      refine ⟨a, ns, _, rfl, hS1, by omega, fun c2 => ?_⟩
      wtm_at "w"
      refine vo_mod (by omega) ?_
      have e0 := Int.emod_nonneg ((if c2 < 0 then -c2 else c2) / 3) (show s + 1 ≠ 0 by omega)
      have e1 := Int.emod_lt_of_pos ((if c2 < 0 then -c2 else c2) / 3) (show 0 < s + 1 by omega)
      generalize (if c2 < 0 then -c2 else c2) / 3 % (s + 1) = e at e0 e1
      have s60 : s < 2 ^ 60 := by omega
      have ln := gt_len 130 s e
      wtm_at "w"
      refine ⟨s, e, rfl, e0, by omega, s60, fun p1 H3 k3 h3 => ?_⟩
      wtm_at "w"
      refine ⟨s, e, rfl, e0, by omega, s60, fun p2 H4 k4 h4 => ?_⟩
      have h34 := k4.at0 h3
      have pl := plL (s :: gt 130 s e) (by rw [List.length_cons]; omega)
      wtm_at "w"
      refine ⟨_, _, _, rfl, dp_L (Z.SqL.of' h34), dp_L (Z.SqL.of' h4), pl.2, pl.1, ?_⟩
      wtm_at "w"
      try refine vc_lenL (Z.SqL.of' h34) ?_
      wtm_at "w"
      refine ⟨s, e, rfl, e0, by omega, by omega, fun H5 k5 => ?_⟩
      wtm_at "w"
      refine ite_nd (fun h => absurd (by rw [List.length_map, List.length_cons]; omega) h) (fun _ => ?_)
      have k15 : Kp [] H H5 := ((k1.tr0 k3).tr0 k4).tr0 k5
      have hS5 := k15.lst0 hS
      wtm_at "w"
      refine vo_mul (cmulL (by decide)) ?_
      wtm_at "w"
      refine ⟨a, ns, _, rfl, hS5, by omega, fun c3 => ?_⟩
      wtm_at "w"
      refine vo_mul (cmulR (by decide)) ?_
      wtm_at "w"
      refine vo_pow ⟨by decide, by decide, by decide⟩ ?_
      refine vo_mod (show (0 : Int) < 2 ^ (60 : Int).toNat by decide) ?_
      have f0 := Int.emod_nonneg ((if c3 < 0 then -c3 else c3) * 69069 + (i : Int)) (show (2 : Int) ^ (60 : Int).toNat ≠ 0 by decide)
      have f1 := Int.emod_lt_of_pos ((if c3 < 0 then -c3 else c3) * 69069 + (i : Int)) (show 0 < (2 : Int) ^ (60 : Int).toNat by decide)
      generalize ((if c3 < 0 then -c3 else c3) * 69069 + (i : Int)) % 2 ^ (60 : Int).toNat = s' at f0 f1
      have f2 : s' < 2 ^ 60 := f1
      refine ⟨_, by wtm_at "u", ?_⟩
      wtm_at "w"
      refine vo_mul (cmulL (by decide)) ?_
      wtm_at "w"
      refine ⟨a, ns, _, rfl, hS5, by omega, fun c4 => ?_⟩
      wtm_at "w"
      refine vo_mul (cmulR (by decide)) ?_
      wtm_at "w"
      refine vo_mod (by omega) ?_
      have g0 := Int.emod_nonneg ((if c4 < 0 then -c4 else c4) * 48271) (show s' + 1 ≠ 0 by omega)
      have g1 := Int.emod_lt_of_pos ((if c4 < 0 then -c4 else c4) * 48271) (show 0 < s' + 1 by omega)
      generalize (if c4 < 0 then -c4 else c4) * 48271 % (s' + 1) = e' at g0 g1
      refine ⟨_, by wtm_at "u", rest2 _ _ (by exact rfl) (fun σ' H' h => h) s' e' _ H5 g0 (by omega) f2 k15⟩
    · rintro σ' H1 ⟨v1, v2, v3, v4, v5, rfl, k1⟩
      wtm_at "w"
      exact q _
/-! the end -/
theorem all_mk {l : PySem.W.OpenLaw} {w : World} {K : PySem.W.Frag} {h : Heap} {mg : Str → Option Value} {fa f__greatest_step f_way_back f__law_cell f__law_is_integer f__law_same f__law_backs f__law_fewest f__law_greedy f_law : Addr} (X : K.In h) (G : h.Ns mainGlobals mg) (hfa : mg "law" = some (.ref fa))
    {od__greatest_step an__greatest_step od_way_back an_way_back od__law_cell an__law_cell od__law_is_integer an__law_is_integer od__law_same an__law_same od__law_backs an__law_backs od__law_fewest an__law_fewest od__law_greedy an__law_greedy od_law an_law : Option Addr} {sl__greatest_step sl_way_back sl__law_cell sl__law_is_integer sl__law_same sl__law_backs sl__law_fewest sl__law_greedy sl_law : Array (Option Value)} {oc__greatest_step kV__greatest_step dc__greatest_step pm__greatest_step cd__greatest_step ct__greatest_step oc_way_back kV_way_back dc_way_back pm_way_back cd_way_back ct_way_back oc__law_cell kV__law_cell dc__law_cell pm__law_cell cd__law_cell ct__law_cell oc__law_is_integer kV__law_is_integer dc__law_is_integer pm__law_is_integer cd__law_is_integer ct__law_is_integer oc__law_same kV__law_same dc__law_same pm__law_same cd__law_same ct__law_same oc__law_backs kV__law_backs dc__law_backs pm__law_backs cd__law_backs ct__law_backs oc__law_fewest kV__law_fewest dc__law_fewest pm__law_fewest cd__law_fewest ct__law_fewest oc__law_greedy kV__law_greedy dc__law_greedy pm__law_greedy cd__law_greedy ct__law_greedy oc_law kV_law dc_law pm_law cd_law ct_law : Value}
    (a__greatest_step : PySem.W.nsIn K mainGlobals "_greatest_step" = some (some (.ref f__greatest_step)))
    (l__greatest_step : K.lookup f__greatest_step = some ⟨oc__greatest_step, od__greatest_step, .func (PySem.W.fnOf "_greatest_step" "_greatest_step" (defArgs s__greatest_step) (defBody s__greatest_step) (defScope s__greatest_step) .none kV__greatest_step dc__greatest_step pm__greatest_step an__greatest_step cd__greatest_step ct__greatest_step), sl__greatest_step⟩)
    (c__greatest_step : PySem.W.codeIn K cd__greatest_step "_greatest_step" = true)
    (k__greatest_step : PySem.W.keepIn K (.ref f__greatest_step) = true)
    (a_way_back : PySem.W.nsIn K mainGlobals "way_back" = some (some (.ref f_way_back)))
    (l_way_back : K.lookup f_way_back = some ⟨oc_way_back, od_way_back, .func (PySem.W.fnOf "way_back" "way_back" (defArgs s_way_back) (defBody s_way_back) (defScope s_way_back) .none kV_way_back dc_way_back pm_way_back an_way_back cd_way_back ct_way_back), sl_way_back⟩)
    (c_way_back : PySem.W.codeIn K cd_way_back "way_back" = true)
    (k_way_back : PySem.W.keepIn K (.ref f_way_back) = true)
    (a__law_cell : PySem.W.nsIn K mainGlobals "_law_cell" = some (some (.ref f__law_cell)))
    (l__law_cell : K.lookup f__law_cell = some ⟨oc__law_cell, od__law_cell, .func (PySem.W.fnOf "_law_cell" "_law_cell" (defArgs s__law_cell) (defBody s__law_cell) (defScope s__law_cell) .none kV__law_cell dc__law_cell pm__law_cell an__law_cell cd__law_cell ct__law_cell), sl__law_cell⟩)
    (c__law_cell : PySem.W.codeIn K cd__law_cell "_law_cell" = true)
    (k__law_cell : PySem.W.keepIn K (.ref f__law_cell) = true)
    (a__law_is_integer : PySem.W.nsIn K mainGlobals "_law_is_integer" = some (some (.ref f__law_is_integer)))
    (l__law_is_integer : K.lookup f__law_is_integer = some ⟨oc__law_is_integer, od__law_is_integer, .func (PySem.W.fnOf "_law_is_integer" "_law_is_integer" (defArgs s__law_is_integer) (defBody s__law_is_integer) (defScope s__law_is_integer) .none kV__law_is_integer dc__law_is_integer pm__law_is_integer an__law_is_integer cd__law_is_integer ct__law_is_integer), sl__law_is_integer⟩)
    (c__law_is_integer : PySem.W.codeIn K cd__law_is_integer "_law_is_integer" = true)
    (k__law_is_integer : PySem.W.keepIn K (.ref f__law_is_integer) = true)
    (a__law_same : PySem.W.nsIn K mainGlobals "_law_same" = some (some (.ref f__law_same)))
    (l__law_same : K.lookup f__law_same = some ⟨oc__law_same, od__law_same, .func (PySem.W.fnOf "_law_same" "_law_same" (defArgs s__law_same) (defBody s__law_same) (defScope s__law_same) .none kV__law_same dc__law_same pm__law_same an__law_same cd__law_same ct__law_same), sl__law_same⟩)
    (c__law_same : PySem.W.codeIn K cd__law_same "_law_same" = true)
    (k__law_same : PySem.W.keepIn K (.ref f__law_same) = true)
    (a__law_backs : PySem.W.nsIn K mainGlobals "_law_backs" = some (some (.ref f__law_backs)))
    (l__law_backs : K.lookup f__law_backs = some ⟨oc__law_backs, od__law_backs, .func (PySem.W.fnOf "_law_backs" "_law_backs" (defArgs s__law_backs) (defBody s__law_backs) (defScope s__law_backs) .none kV__law_backs dc__law_backs pm__law_backs an__law_backs cd__law_backs ct__law_backs), sl__law_backs⟩)
    (c__law_backs : PySem.W.codeIn K cd__law_backs "_law_backs" = true)
    (k__law_backs : PySem.W.keepIn K (.ref f__law_backs) = true)
    (a__law_fewest : PySem.W.nsIn K mainGlobals "_law_fewest" = some (some (.ref f__law_fewest)))
    (l__law_fewest : K.lookup f__law_fewest = some ⟨oc__law_fewest, od__law_fewest, .func (PySem.W.fnOf "_law_fewest" "_law_fewest" (defArgs s__law_fewest) (defBody s__law_fewest) (defScope s__law_fewest) .none kV__law_fewest dc__law_fewest pm__law_fewest an__law_fewest cd__law_fewest ct__law_fewest), sl__law_fewest⟩)
    (c__law_fewest : PySem.W.codeIn K cd__law_fewest "_law_fewest" = true)
    (k__law_fewest : PySem.W.keepIn K (.ref f__law_fewest) = true)
    (a__law_greedy : PySem.W.nsIn K mainGlobals "_law_greedy" = some (some (.ref f__law_greedy)))
    (l__law_greedy : K.lookup f__law_greedy = some ⟨oc__law_greedy, od__law_greedy, .func (PySem.W.fnOf "_law_greedy" "_law_greedy" (defArgs s__law_greedy) (defBody s__law_greedy) (defScope s__law_greedy) .none kV__law_greedy dc__law_greedy pm__law_greedy an__law_greedy cd__law_greedy ct__law_greedy), sl__law_greedy⟩)
    (c__law_greedy : PySem.W.codeIn K cd__law_greedy "_law_greedy" = true)
    (k__law_greedy : PySem.W.keepIn K (.ref f__law_greedy) = true)
    (a_law : PySem.W.nsIn K mainGlobals "law" = some (some (.ref f_law)))
    (l_law : K.lookup f_law = some ⟨oc_law, od_law, .func (PySem.W.fnOf "law" "law" (defArgs s_law) (defBody s_law) (defScope s_law) .none kV_law dc_law pm_law an_law cd_law ct_law), sl_law⟩)
    (c_law : PySem.W.codeIn K cd_law "law" = true)
    (k_law : PySem.W.keepIn K (.ref f_law) = true)
    (z_abs : PySem.W.nsIn K mainGlobals "abs" = some none)
    (z_bool : PySem.W.nsIn K mainGlobals "bool" = some none)
    (z_int : PySem.W.nsIn K mainGlobals "int" = some none)
    (z_isinstance : PySem.W.nsIn K mainGlobals "isinstance" = some none)
    (z_len : PySem.W.nsIn K mainGlobals "len" = some none)
    (z_list : PySem.W.nsIn K mainGlobals "list" = some none)
    (z_max : PySem.W.nsIn K mainGlobals "max" = some none)
    (z_min : PySem.W.nsIn K mainGlobals "min" = some none)
    (z_range : PySem.W.nsIn K mainGlobals "range" = some none)
    (z_str : PySem.W.nsIn K mainGlobals "str" = some none)
    (z_tuple : PySem.W.nsIn K mainGlobals "tuple" = some none)
    : ∃ fd : FuncData, (∀ (s : Shared) (v : Value), BindsTo s fd ⟨[v], []⟩ [("script", v)]) ∧ ∀ base : Heap, K.In base → base.Ns mainGlobals mg → FnOk l.prog w K mg base CX0 12 fa fd ["script"] (sp_law K) := by
  have e := hfa.symm.trans (PySem.W.mg_of X G a_law)
  cases e
  have F__greatest_step := fun_mk (st := s__greatest_step) l__greatest_step c__greatest_step k__greatest_step
  have b__greatest_step := F__greatest_step.binds (ps := ["number"]) fun _ _ _ _ _ _ us hl => match us, hl with | [_], _ => rfl
  have F_way_back := fun_mk (st := s_way_back) l_way_back c_way_back k_way_back
  have b_way_back := F_way_back.binds (ps := ["start", "end"]) fun _ _ _ _ _ _ us hl => match us, hl with | [_, _], _ => rfl
  have F__law_cell := fun_mk (st := s__law_cell) l__law_cell c__law_cell k__law_cell
  have b__law_cell := F__law_cell.binds (ps := ["script", "k"]) fun _ _ _ _ _ _ us hl => match us, hl with | [_, _], _ => rfl
  have F__law_is_integer := fun_mk (st := s__law_is_integer) l__law_is_integer c__law_is_integer k__law_is_integer
  have b__law_is_integer := F__law_is_integer.binds (ps := ["told"]) fun _ _ _ _ _ _ us hl => match us, hl with | [_], _ => rfl
  have F__law_same := fun_mk (st := s__law_same) l__law_same c__law_same k__law_same
  have b__law_same := F__law_same.binds (ps := ["told", "due"]) fun _ _ _ _ _ _ us hl => match us, hl with | [_, _], _ => rfl
  have F__law_backs := fun_mk (st := s__law_backs) l__law_backs c__law_backs k__law_backs
  have b__law_backs := F__law_backs.binds (ps := ["number"]) fun _ _ _ _ _ _ us hl => match us, hl with | [_], _ => rfl
  have F__law_fewest := fun_mk (st := s__law_fewest) l__law_fewest c__law_fewest k__law_fewest
  have b__law_fewest := F__law_fewest.binds (ps := ["start", "end"]) fun _ _ _ _ _ _ us hl => match us, hl with | [_, _], _ => rfl
  have F__law_greedy := fun_mk (st := s__law_greedy) l__law_greedy c__law_greedy k__law_greedy
  have b__law_greedy := F__law_greedy.binds (ps := ["start", "end"]) fun _ _ _ _ _ _ us hl => match us, hl with | [_, _], _ => rfl
  have F_law := fun_mk (st := s_law) l_law c_law k_law
  refine ⟨PySem.W.fnOf "law" "law" (defArgs s_law) (defBody s_law) (defScope s_law) .none kV_law dc_law pm_law an_law cd_law ct_law, fun s v => .of_eq rfl, fun base _ _ => ?_⟩
  have T : Txt l.prog w K mg base := { b_abs := PySem.W.mg_none_of X G z_abs, b_bool := PySem.W.mg_none_of X G z_bool, b_int := PySem.W.mg_none_of X G z_int, b_isinstance := PySem.W.mg_none_of X G z_isinstance, b_len := PySem.W.mg_none_of X G z_len, b_list := PySem.W.mg_none_of X G z_list, b_max := PySem.W.mg_none_of X G z_max, b_min := PySem.W.mg_none_of X G z_min, b_range := PySem.W.mg_none_of X G z_range, b_str := PySem.W.mg_none_of X G z_str, b_tuple := PySem.W.mg_none_of X G z_tuple, d__greatest_step := ⟨_, _, F__greatest_step, PySem.W.mg_of X G a__greatest_step, b__greatest_step⟩, d_way_back := ⟨_, _, F_way_back, PySem.W.mg_of X G a_way_back, b_way_back⟩, d__law_cell := ⟨_, _, F__law_cell, PySem.W.mg_of X G a__law_cell, b__law_cell⟩, d__law_is_integer := ⟨_, _, F__law_is_integer, PySem.W.mg_of X G a__law_is_integer, b__law_is_integer⟩, d__law_same := ⟨_, _, F__law_same, PySem.W.mg_of X G a__law_same, b__law_same⟩, d__law_backs := ⟨_, _, F__law_backs, PySem.W.mg_of X G a__law_backs, b__law_backs⟩, d__law_fewest := ⟨_, _, F__law_fewest, PySem.W.mg_of X G a__law_fewest, b__law_fewest⟩, d__law_greedy := ⟨_, _, F__law_greedy, PySem.W.mg_of X G a__law_greedy, b__law_greedy⟩ }
  exact fn_law T F_law
theorem walk {l : PySem.W.OpenLaw} {q : Program} {loose : List Str} {XP : (Str → Option Value) → Heap → Prop} {YP : World → Heap → Prop} {d : DefRec} {K : Params → PySem.W.Frag} (hn : l.most = some 63) (hdf : d.params.defaults = []) (hY : ∀ (w : World) (h : Heap), YP w h → (K w.params).In h)
    (F : ∀ (w : World) (mg : Str → Option Value) (fa : Addr) (h : Heap), (K w.params).In h → h.Ns mainGlobals mg → mg d.name = some (.ref fa) →
      ∃ fd : FuncData, (∀ (s : Shared) (u : Value), BindsTo s fd ⟨[u], []⟩ [("script", u)]) ∧ ∀ base : Heap, (K w.params).In base → base.Ns mainGlobals mg → FnOk l.prog w (K w.params) mg base CX0 12 fa fd ["script"] (sp_law (K w.params))) :
    PySem.W.WalkO q loose XP YP l.row.toRowW d [] (fun f vs => PySem.call f vs) :=
  L2.walk_of (n := 63) (k := 12) (x := "script") (CX := fun _ => CX0) (sp := fun w => sp_law (K w.params)) hn (by decide) hdf ⟨rfl, by decide, by decide⟩ hY F (fun _ _ a ns hl _ hS => ⟨a, ns, rfl, hS, hl, fun _ => rfl⟩) fun _ _ _ _ _ z => z
end Law
open PySem PySem.W PyProof.Rows in
set_option maxRecDepth 100000 in
set_option maxHeartbeats 0 in
theorem PySem.Challenge.cw_sealround_k06_shortest_way_back_holds : PySem.Challenge.rw_sealround_k06_shortest_way_back.Holds := by
  w_on; o_law; k_head; (case hw => w_witness2)
  k_fill
  refine Law.walk (l := PySem.Challenge.rw_sealround_k06_shortest_way_back) rfl rfl (fun w h Y => PySem.W.kIn_of Y) ?F
  case F =>
    intro w mg fa h KX G hmg
    refine' Law.all_mk KX G hmg ?a__greatest_step ?l__greatest_step ?c__greatest_step ?k__greatest_step ?a_way_back ?l_way_back ?c_way_back ?k_way_back ?a__law_cell ?l__law_cell ?c__law_cell ?k__law_cell ?a__law_is_integer ?l__law_is_integer ?c__law_is_integer ?k__law_is_integer ?a__law_same ?l__law_same ?c__law_same ?k__law_same ?a__law_backs ?l__law_backs ?c__law_backs ?k__law_backs ?a__law_fewest ?l__law_fewest ?c__law_fewest ?k__law_fewest ?a__law_greedy ?l__law_greedy ?c__law_greedy ?k__law_greedy ?a_law ?l_law ?c_law ?k_law ?z_abs ?z_bool ?z_int ?z_isinstance ?z_len ?z_list ?z_max ?z_min ?z_range ?z_str ?z_tuple
    (case a__greatest_step => k_is)
    (case l__greatest_step => k_is)
    (case c__greatest_step => k_is)
    (case k__greatest_step => k_is)
    (case a_way_back => k_is)
    (case l_way_back => k_is)
    (case c_way_back => k_is)
    (case k_way_back => k_is)
    (case a__law_cell => k_is)
    (case l__law_cell => k_is)
    (case c__law_cell => k_is)
    (case k__law_cell => k_is)
    (case a__law_is_integer => k_is)
    (case l__law_is_integer => k_is)
    (case c__law_is_integer => k_is)
    (case k__law_is_integer => k_is)
    (case a__law_same => k_is)
    (case l__law_same => k_is)
    (case c__law_same => k_is)
    (case k__law_same => k_is)
    (case a__law_backs => k_is)
    (case l__law_backs => k_is)
    (case c__law_backs => k_is)
    (case k__law_backs => k_is)
    (case a__law_fewest => k_is)
    (case l__law_fewest => k_is)
    (case c__law_fewest => k_is)
    (case k__law_fewest => k_is)
    (case a__law_greedy => k_is)
    (case l__law_greedy => k_is)
    (case c__law_greedy => k_is)
    (case k__law_greedy => k_is)
    (case a_law => k_is)
    (case l_law => k_is)
    (case c_law => k_is)
    (case k_law => k_is)
    (case z_abs => k_is)
    (case z_bool => k_is)
    (case z_int => k_is)
    (case z_isinstance => k_is)
    (case z_len => k_is)
    (case z_list => k_is)
    (case z_max => k_is)
    (case z_min => k_is)
    (case z_range => k_is)
    (case z_str => k_is)
    (case z_tuple => k_is)
