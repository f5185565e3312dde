import PyProof.Rows.All
import Wide.All
import OpenK.AllK
import Wide.FinOn
import HandS.ForMost
import HandS.IsInst
import HandS.Star
import HandS.WideBits
import HandS.Style
import HandS.Wide
import HandS.Flow
import HandS.TupAny
import PySem.Challenge.RW_sealround_k01_digests
set_option Elab.async false
set_option linter.all false
set_option maxRecDepth 100000
set_option maxHeartbeats 4000000
namespace Z
open PySem L2

/-! ## one heap and the next: all but what stands in A is kept, tuples and what is locked always, nothing goes -/
structure Kp (A : List Addr) (H H' : Hp) : Prop where
  k : ∀ q o, q ∉ A → H q = some o → H' q = some o
  t : ∀ q xs, H q = some (.tup xs) → H' q = some (.tup xs)
  z : ∀ q o u, H q = some (.frz o u) → H' q = some (.frz o u)
  n : ∀ q, H' q = none → H q = none
theorem Kp.refl (A : List Addr) (H : Hp) : Kp A H H := ⟨fun _ _ _ h => h, fun _ _ h => h, fun _ _ _ h => h, fun _ h => h⟩
theorem Kp.tr {A B : List Addr} {H H1 H2 : Hp} (a : Kp A H H1) (b : Kp B H1 H2) (h : ∀ l ∈ B, l ∈ A ∨ H l = none) : Kp A H H2 :=
  ⟨fun q o hq e => b.k q o (fun m => (h q m).elim hq fun z => by rw [z] at e; cases e) (a.k q o hq e), fun q xs e => b.t q xs (a.t q xs e), fun q o u e => b.z q o u (a.z q o u e), fun q e => a.n q (b.n q e)⟩
theorem Kp.tr0 {A : List Addr} {H H1 H2 : Hp} (a : Kp A H H1) (b : Kp [] H1 H2) : Kp A H H2 := a.tr b fun _ m => nomatch m
theorem Kp.tr1 {A : List Addr} {l : Addr} {H H1 H2 : Hp} (a : Kp A H H1) (b : Kp [l] H1 H2) (h : l ∈ A ∨ H l = none) : Kp A H H2 := a.tr b fun q m => by
  have e : q = l := by simpa using m
  rw [e]; exact h
theorem Kp.there {A : List Addr} {H H' : Hp} {q : Addr} {o : HO} (a : Kp A H H') (h : H q = some o) : H' q ≠ none := fun e => by
  rw [a.n q e] at h; cases h
theorem Kp.wk {A B : List Addr} {H H' : Hp} (a : Kp A H H') (h : ∀ l ∈ A, l ∈ B) : Kp B H H' := ⟨fun q o hq e => a.k q o (fun m => hq (h q m)) e, a.t, a.z, a.n⟩
theorem Kp.new {H : Hp} {p : Addr} {o : HO} (h : H p = none) : Kp [] H (upd H p o) := by
  have k : ∀ q u, H q = some u → upd H p o q = some u := fun q u e => by rw [upd_ne (ne_of_none e h)]; exact e
  refine ⟨fun q u _ e => k q u e, fun q xs e => k q _ e, fun q _ _ e => k q _ e, fun q e => ?_⟩
  cases hq : H q with
  | none => rfl
  | some u => rw [k q u hq] at e; cases e
/-- what may be changed -/
def Mu : HO → Bool
  | .tup _ => false
  | .frz _ _ => false
  | _ => true
theorem Kp.set {H : Hp} {l : Addr} {o u : HO} (h : H l = some u) (m : Mu u = true) : Kp [l] H (upd H l o) := by
  refine ⟨fun q u' hq e => ?_, fun q xs e => ?_, fun q o' u' e => ?_, fun q e => ?_⟩
  · rw [upd_ne (by simpa using hq)]; exact e
  · have ne : q ≠ l := fun z => by
      rw [z, h] at e; cases e; cases m
    rw [upd_ne ne]; exact e
  · have ne : q ≠ l := fun z => by
      rw [z, h] at e; cases e; cases m
    rw [upd_ne ne]; exact e
  · by_cases z : q = l
    · rw [z, upd_same] at e; cases e
    · rw [upd_ne z] at e; exact e
theorem Kp.tup {K : PySem.W.Frag} {A : List Addr} {H H' : Hp} {p : Addr} {xs : List V} (a : Kp A H H') (h : SqT K H p xs) : SqT K H' p xs := by
  rcases h with (h | ⟨o, h⟩) | h
  · exact .inl (.inl (a.t _ _ h))
  · exact .inl (.inr ⟨o, a.z _ _ _ h⟩)
  · exact .inr h
theorem Kp.lst {K : PySem.W.Frag} {A : List Addr} {H H' : Hp} {p : Addr} {xs : List V} (a : Kp A H H') (np : p ∉ A) (h : SqL K H p xs) : SqL K H' p xs := by
  rcases h with (h | ⟨o, h⟩) | h
  · exact .inl (.inl (a.k _ _ np h))
  · exact .inl (.inr ⟨o, a.z _ _ _ h⟩)
  · exact .inr h
theorem Kp.lst0 {K : PySem.W.Frag} {H H' : Hp} {p : Addr} {xs : List V} (a : Kp [] H H') (h : SqL K H p xs) : SqL K H' p xs := a.lst (by simp) h
theorem Kp.at {A : List Addr} {H H' : Hp} {p : Addr} {o : HO} (a : Kp A H H') (np : p ∉ A) (h : H p = .some o) : H' p = .some o := a.k _ _ np h
theorem Kp.at0 {H H' : Hp} {p : Addr} {o : HO} (a : Kp [] H H') (h : H p = .some o) : H' p = .some o := a.k _ _ (by simp) h
theorem Kp.at1 {H H' : Hp} {b p : Addr} {o : HO} (k : Kp [b] H H') (n : p ≠ b) (h : H p = .some o) : H' p = .some o := k.at (by simpa using n) h
theorem Kp.lst1 {K : PySem.W.Frag} {H H' : Hp} {b p : Addr} {xs : List V} (k : Kp [b] H H') (n : p ≠ b) (h : SqL K H p xs) : SqL K H' p xs := k.lst (by simpa using n) h
theorem Kp.same {H H' : Hp} (a : Kp [] H H') : Same H H' := fun q o e => a.at0 e
theorem SqT.of' {K : PySem.W.Frag} {H : Hp} {p : Addr} {xs : List V} (h : H p = .some (.tup xs)) : SqT K H p xs := .inl (.inl h)
theorem SqL.of' {K : PySem.W.Frag} {H : Hp} {p : Addr} {xs : List V} (h : H p = .some (.lst xs)) : SqL K H p xs := .inl (.inl h)
/-- a list that nothing changes (the script) -/
theorem ne_lst {K : PySem.W.Frag} {H : Hp} {p l : Addr} {o u : HO} (h : H p = .some o) (h' : H l = .some u) (d : o ≠ u) : p ≠ l := ne_of h h' d

/-! ## names and slots, by syntax alone -/
inductive At : List Str → St → Str → V → Prop
  | z {x : Str} {N : List Str} {v : V} {σ : St} : At (x :: N) (some v :: σ) x v
  | s {x y : Str} {N : List Str} {o : Option V} {v : V} {σ : St} : At N σ x v → At (y :: N) (o :: σ) x v
inductive Put : List Str → St → Str → V → St → Prop
  | z {x : Str} {N : List Str} {o : Option V} {v : V} {σ : St} : Put (x :: N) (o :: σ) x v (some v :: σ)
  | s {x y : Str} {N : List Str} {o : Option V} {v : V} {σ σ' : St} : Put N σ x v σ' → Put (y :: N) (o :: σ) x v (o :: σ')
inductive Mem : List Str → Str → Prop
  | z {x : Str} {N : List Str} : Mem (x :: N) x
  | s {x y : Str} {N : List Str} : Mem N x → Mem (y :: N) x
theorem At.ix {N : List Str} {σ : St} {x : Str} {v : V} (h : At N σ x v) : ∃ i : Nat, N[i]? = some x ∧ σ[i]? = some (some v) := by
  induction h with
  | z => exact ⟨0, rfl, rfl⟩
  | s _ ih => obtain ⟨i, a, b⟩ := ih; exact ⟨i + 1, by simpa using a, by simpa using b⟩
theorem Put.ix {N : List Str} {σ σ' : St} {x : Str} {v : V} (h : Put N σ x v σ') : ∃ i : Nat, N[i]? = some x ∧ σ.set i (some v) = σ' := by
  induction h with
  | z => exact ⟨0, rfl, rfl⟩
  | s _ ih => obtain ⟨i, a, b⟩ := ih; exact ⟨i + 1, by simpa using a, by simp [b]⟩
theorem Mem.mem {N : List Str} {x : Str} (h : Mem N x) : x ∈ N := by
  induction h with
  | z => simp
  | s _ ih => simp [ih]

/-! ## a block's scope: the names that it may read, may store; what it reads of the module -/
def okC (sc : Scope) (Vs Ls G : List Str) : Bool := Vs.all (fun x => sc.names.lookup x == some .local || sc.names.lookup x == some .cell || sc.names.lookup x == some .free) && Ls.all (fun x => sc.names.lookup x == some .local || sc.names.lookup x == some .cell) && G.all (fun x => sc.names.lookup x == some .globalImplicit)
theorem kind_of_beq : ∀ (a b : Option NameKind), (a == b) = true → a = b := fun a b h => by
  cases a <;> cases b <;> first | rfl | cases h | skip
  rename_i a b; cases a <;> cases b <;> first | rfl | cases h
theorem okC.vis {sc : Scope} {Vs Ls G : List Str} (h : okC sc Vs Ls G = true) {x : Str} (hx : x ∈ Vs) : Vis sc x := by
  unfold okC at h
  simp only [Bool.and_eq_true, List.all_eq_true, Bool.or_eq_true] at h
  rcases h.1.1 x hx with (q | q) | q
  · exact .inl (kind_of_beq _ _ q)
  · exact .inr (.inl (kind_of_beq _ _ q))
  · exact .inr (.inr (kind_of_beq _ _ q))
theorem okC.loc {sc : Scope} {Vs Ls G : List Str} (h : okC sc Vs Ls G = true) {x : Str} (hx : x ∈ Ls) : Loc sc x := by
  unfold okC at h
  simp only [Bool.and_eq_true, List.all_eq_true, Bool.or_eq_true] at h
  exact (h.1.2 x hx).imp (kind_of_beq _ _) (kind_of_beq _ _)
theorem okC.gl {sc : Scope} {Vs Ls G : List Str} (h : okC sc Vs Ls G = true) {x : Str} (hx : x ∈ G) : sc.names.lookup x = some .globalImplicit := by
  unfold okC at h
  simp only [Bool.and_eq_true, List.all_eq_true, Bool.or_eq_true] at h
  exact kind_of_beq _ _ (h.2 x hx)

/-! ## the judgements: a piece of syntax from a state -/
section
inductive XE (X : Cx) (e : Expr) (σ : St) (H : Hp) (Q : VK) : Prop
  | mk (t : TE) (h : PE X e t) (q : t σ H Q)
inductive XT (X : Cx) (e : Expr) (σ : St) (H : Hp) (Q : Bool → Hp → Prop) : Prop
  | mk (t : TT) (h : PT X e t) (q : t σ H Q)
inductive XW (X : Cx) (e : Expr) (σ : St) (H : Hp) (Q : Bool → Hp → Prop) : Prop
  | mk (t : TT) (h : PW X e t) (q : t σ H Q)
inductive XA (X : Cx) (es : List Expr) (σ : St) (H : Hp) (Q : List V → Hp → Prop) : Prop
  | mk (t : TA) (h : PA X es t) (q : t σ H Q)
inductive XO (X : Cx) (e : Option Expr) (σ : St) (H : Hp) (Q : Option Int → Hp → Prop) : Prop
  | mk (t : TO) (h : PO X e t) (q : t σ H Q)
inductive XG (X : Cx) (e : Expr) (v : V) (σ : St) (H : Hp) (Q : St → Hp → Prop) : Prop
  | mk (t : TG) (h : PG X e t) (q : t v σ H Q)
inductive XGs (X : Cx) (es : List Expr) (v : List V) (σ : St) (H : Hp) (Q : St → Hp → Prop) : Prop
  | mk (t : TGs) (h : PGs X es t) (q : t v σ H Q)
inductive XI (X : Cx) (tg e : Expr) (σ : St) (H : Hp) (R : It → Hp → Prop) : Prop
  | mk (t : TI) (h : PI X tg e t) (q : t σ H R)
/-- what is wanted behind a return, a break, a continue -/
structure B3 where
  rt : VK
  bk : St → Hp → Prop
  ct : St → Hp → Prop
inductive XS (X : Cx) (s : Stmt) (nx : St → Hp → Prop) (D : B3) (σ : St) (H : Hp) : Prop
  | mk (t : TS) (h : PS X s t) (q : t ⟨nx, D.rt, D.bk, D.ct⟩ σ H)
inductive XB (X : Cx) (s : List Stmt) (nx : St → Hp → Prop) (D : B3) (σ : St) (H : Hp) : Prop
  | mk (t : TS) (h : PSs X s t) (q : t ⟨nx, D.rt, D.bk, D.ct⟩ σ H)
/-! by values -/
inductive VO (X : Cx) (f : Value → Value → Sem Value) (x y : V) (H : Hp) (Q : VK) : Prop
  | mk (r : R2) (h : OpR X f r) (q : r x y H Q)
inductive VU (X : Cx) (f : Value → Sem Value) (x : V) (H : Hp) (Q : VK) : Prop
  | mk (r : V → Hp → VK → Prop) (h : UnR X f r) (q : r x H Q)
inductive VC (X : Cx) (f : Value) (xs : List V) (H : Hp) (Q : VK) : Prop
  | mk (r : List V → Hp → VK → Prop) (h : CallR X f r) (q : r xs H Q)
inductive VX (X : Cx) (x y : V) (H : Hp) (Q : VK) : Prop
  | mk (r : R2) (h : IxR X r) (q : r x y H Q)
inductive VSl (X : Cx) (x : V) (a b : Option Int) (H : Hp) (Q : VK) : Prop
  | mk (r : V → Option Int → Option Int → Hp → VK → Prop) (h : SlR X r) (q : r x a b H Q)
inductive VM (X : Cx) (id : String) (x : V) (xs : List V) (H : Hp) (Q : VK) : Prop
  | mk (r : V → List V → Hp → VK → Prop) (h : MtR X id r) (q : r x xs H Q)
inductive VT (X : Cx) (x : V) (H : Hp) (Q : Bool → Hp → Prop) : Prop
  | mk (k : Bool) (h : TruV X.K x H k) (q : Q k H)
inductive VSt (X : Cx) (o i v : V) (H : Hp) (Q : Hp → Prop) : Prop
  | mk (r : TSet) (h : PSet X r) (q : r o i v H Q)
inductive VIp (X : Cx) (op : Operator) (x y : V) (H : Hp) (Q : VK) : Prop
  | mk (r : TIp) (h : PIp X op r) (q : r x y H Q)
theorem VT.ex {X : Cx} {x : V} {H : Hp} {Q : Bool → Hp → Prop} (h : VT X x H Q) : ∃ k, TruV X.K x H k ∧ Q k H := by
  obtain ⟨k, a, b⟩ := h
  exact ⟨k, a, b⟩
end
section
variable {X : Cx} {σ σ' : St} {H : Hp} {Q : VK} {e a b : Expr} {es : List Expr} {pos p1 p2 p3 : Pos}
theorem XE.pe : PE X e (XE X e) := ⟨fun pins s σ H Q I ⟨_, ht, q⟩ => ht.run pins s σ H Q I q⟩
theorem XT.pt : PT X e (XT X e) := ⟨fun pins s σ H Q I ⟨_, ht, q⟩ => ht.run pins s σ H Q I q⟩
theorem XW.pw : PW X e (XW X e) := ⟨fun wh pins s σ H Q I ⟨_, ht, q⟩ => ht.run wh pins s σ H Q I q⟩
theorem XA.pa : PA X es (XA X es) := ⟨fun pos pins s σ H Q I ⟨_, ht, q⟩ => ht.run pos pins s σ H Q I q⟩
theorem XO.po {e : Option Expr} : PO X e (XO X e) := ⟨fun pins s σ H Q I ⟨_, ht, q⟩ => ht.run pins s σ H Q I q⟩
theorem XG.pg : PG X e (XG X e) := ⟨fun pins s σ H v u Q I r ⟨_, ht, q⟩ => ht.run pins s σ H v u Q I r q⟩
theorem XGs.pgs : PGs X es (XGs X es) := ⟨fun pins s σ H v u Q I r ⟨_, ht, q⟩ => ht.run pins s σ H v u Q I r q⟩
theorem XI.pi {tg : Expr} : PI X tg e (XI X tg e) := ⟨fun pins s σ H R I ⟨_, ht, q⟩ => ht.run pins s σ H R I q⟩
/-- a statement's reading with the wish behind it fixed apart -/
theorem XS.ps {s : Stmt} : PS X s (fun D σ H => XS X s D.nx ⟨D.rt, D.bk, D.ct⟩ σ H) := ⟨fun pins s σ H D I ⟨_, ht, q⟩ => ht.run pins s σ H D I q⟩
theorem XB.ps {s : List Stmt} : PSs X s (fun D σ H => XB X s D.nx ⟨D.rt, D.bk, D.ct⟩ σ H) := ⟨fun pins s σ H D I ⟨_, ht, q⟩ => ht.run pins s σ H D I q⟩
theorem VO.ok {f : Value → Value → Sem Value} : OpR X f (VO X f) := fun pins s σ H x y v u Q I r1 r2 ⟨_, hr, q⟩ => hr pins s σ H x y v u Q I r1 r2 q
theorem VU.ok {f : Value → Sem Value} : UnR X f (VU X f) := fun pins s σ H x v Q I r1 ⟨_, hr, q⟩ => hr pins s σ H x v Q I r1 q
theorem VC.ok {f : Value} : CallR X f (VC X f) := fun pins s σ H x v Q I r1 ⟨_, hr, q⟩ => hr pins s σ H x v Q I r1 q
theorem VX.ok : IxR X (VX X) := fun v1 v2 pins s σ H x y v u Q I r1 r2 ⟨_, hr, q⟩ hs => hr v1 v2 pins s σ H x y v u Q I r1 r2 q hs
theorem VM.ok {id : String} : MtR X id (VM X id) := fun pins s σ H x xs v us Q I r1 r2 ⟨_, hr, q⟩ => hr pins s σ H x xs v us Q I r1 r2 q
theorem VSl.ok : SlR X (VSl X) := by
  intro pins s σ H x v vl vu lo hi sl Q I rx hs pl pu ⟨_, hr, q⟩
  exact hr pins s σ H x v vl vu lo hi sl Q I rx hs pl pu q
theorem VSt.ok : PSet X (VSt X) := fun pins s σ H o i v ov iv u Q I r1 r2 r3 ⟨_, hr, q⟩ => hr pins s σ H o i v ov iv u Q I r1 r2 r3 q
theorem VIp.ok {op : Operator} : PIp X op (VIp X op) := fun pins s σ H x y v u Q I r1 r2 ⟨_, hr, q⟩ => hr pins s σ H x y v u Q I r1 r2 q


/-! ## more is wanted than asked -/
theorem XE.mono {Q' : VK} (h : XE X e σ H Q) (m : ∀ v H', Q v H' → Q' v H') : XE X e σ H Q' := by
  obtain ⟨t, ht, q⟩ := h
  exact ⟨fun σ H R => ∃ R', t σ H R' ∧ ∀ v H', R' v H' → R v H', ⟨fun pins s σ H R I ⟨R', q, m⟩ => thn (ht.run pins s σ H R' I q) fun v s ⟨x, H', I', r, z⟩ => ⟨x, H', I', r, m _ _ z⟩⟩, Q, q, m⟩
theorem XT.mono {Q Q' : Bool → Hp → Prop} (h : XT X e σ H Q) (m : ∀ v H', Q v H' → Q' v H') : XT X e σ H Q' := by
  obtain ⟨t, ht, q⟩ := h
  exact ⟨fun σ H R => ∃ R', t σ H R' ∧ ∀ v H', R' v H' → R v H', ⟨fun pins s σ H R I ⟨R', q, m⟩ => thn (ht.run pins s σ H R' I q) fun v s ⟨H', I', z⟩ => ⟨H', I', m _ _ z⟩⟩, Q, q, m⟩
theorem XW.mono {Q Q' : Bool → Hp → Prop} (h : XW X e σ H Q) (m : ∀ v H', Q v H' → Q' v H') : XW X e σ H Q' := by
  obtain ⟨t, ht, q⟩ := h
  exact ⟨fun σ H R => ∃ R', t σ H R' ∧ ∀ v H', R' v H' → R v H', ⟨fun wh pins s σ H R I ⟨R', q, m⟩ => thn (ht.run wh pins s σ H R' I q) fun v s ⟨H', I', z⟩ => ⟨H', I', m _ _ z⟩⟩, Q, q, m⟩
theorem XA.mono {Q Q' : List V → Hp → Prop} (h : XA X es σ H Q) (m : ∀ v H', Q v H' → Q' v H') : XA X es σ H Q' := by
  obtain ⟨t, ht, q⟩ := h
  exact ⟨fun σ H R => ∃ R', t σ H R' ∧ ∀ v H', R' v H' → R v H', ⟨fun pos pins s σ H R I ⟨R', q, m⟩ => thn (ht.run pos pins s σ H R' I q) fun v s ⟨x, H', I', r, z⟩ => ⟨x, H', I', r, m _ _ z⟩⟩, Q, q, m⟩
theorem VO.mono {f : Value → Value → Sem Value} {x y : V} {Q' : VK} (h : VO X f x y H Q) (m : ∀ v H', Q v H' → Q' v H') : VO X f x y H Q' := by
  obtain ⟨t, ht, q⟩ := h
  exact ⟨fun x y H R => ∃ R', t x y H R' ∧ ∀ v H', R' v H' → R v H', fun pins s σ H x y v u R I rx ry ⟨R', q, m⟩ => thn (ht pins s σ H x y v u R' I rx ry q) fun v s ⟨x, H', I', r, z⟩ => ⟨x, H', I', r, m _ _ z⟩, Q, q, m⟩
theorem VC.mono {f : Value} {xs : List V} {Q' : VK} (h : VC X f xs H Q) (m : ∀ v H', Q v H' → Q' v H') : VC X f xs H Q' := by
  obtain ⟨t, ht, q⟩ := h
  exact ⟨fun xs H R => ∃ R', t xs H R' ∧ ∀ v H', R' v H' → R v H', fun pins s σ H x v R I rx ⟨R', q, m⟩ => thn (ht pins s σ H x v R' I rx q) fun v s ⟨x, H', I', r, z⟩ => ⟨x, H', I', r, m _ _ z⟩, Q, q, m⟩

/-! ## the context of a body -/
structure Ctx (X : Cx) (sc : Scope) (N Vs Ls G : List Str) (k : Nat) : Prop where
  hN : X.N = N
  nd : N.Nodup
  esc : X.env.scope = sc
  ok : okC sc Vs Ls G = true
  calm : X.calm = true
  fn : ∀ x ∈ Ls, X.fn x = true
  never : X.xe = fun _ _ => False
  knd : sc.kind = .function
  room : Room k X.A
variable {N Vs Ls G : List Str} {k : Nat} {D : B3} {nx : St → Hp → Prop} {K : PySem.W.Frag} {sc : Scope}
theorem Ctx.vis (C : Ctx X sc N Vs Ls G k) {x : Str} (h : Mem Vs x) : Vis X.env.scope x := by rw [C.esc]; exact okC.vis C.ok h.mem
theorem Ctx.loc (C : Ctx X sc N Vs Ls G k) {x : Str} (h : Mem Ls x) : Loc X.env.scope x := by rw [C.esc]; exact okC.loc C.ok h.mem
theorem Ctx.gl (C : Ctx X sc N Vs Ls G k) {x : Str} (h : Mem G x) : Gl X x := by
  show X.env.scope.names.lookup x = _
  rw [C.esc]; exact okC.gl C.ok h.mem
theorem Ctx.hu (C : Ctx X sc N Vs Ls G k) : X.A.units + 1 < cLine := hu_of C.room
theorem Ctx.po (C : Ctx X sc N Vs Ls G k) : PassesOwn (model X.prog X.w) X.A X.env X.xe := by rw [C.never]; exact PassesOwn.never

/-! ## expressions -/
/-- a name: hd, hcd by decide -/
theorem xe_var {x : Str} {v : V} (C : Ctx X sc N Vs Ls G k) (hv : Mem Vs x) (h : At N σ x v) (q : Q v H)
    (hd : (x == ("__debug__" : Str)) = false := by decide) (hcd : (x == ("__classdict__" : Str)) = false := by decide) : XE X (.Name x pos) σ H Q := by
  obtain ⟨i, h1, h2⟩ := h.ix
  exact ⟨_, pe_var (i := i) (by rw [C.hN]; exact h1) (C.vis hv) hd hcd, v, h2, q⟩
theorem xe_int {i : Int} {j : Nat} (q : Q (.int i) H) : XE X (.Constant (.int i) j pos) σ H Q := ⟨_, pe_int, q⟩
theorem xe_bl {i : Bool} {j : Nat} (q : Q (.bl i) H) : XE X (.Constant (.bool i) j pos) σ H Q := ⟨_, pe_bl, q⟩
theorem xe_non {j : Nat} (q : Q .non H) : XE X (.Constant .none j pos) σ H Q := ⟨_, pe_non, q⟩
theorem xe_str {i : Str} {j : Nat} (q : Q (.str i) H) : XE X (.Constant (.str i) j pos) σ H Q := ⟨_, pe_str, q⟩
theorem xe_glob {x : Str} {v : V} {u : Value} (C : Ctx X sc N Vs Ls G k) (hg : Mem G x) (hm : X.mg x = some u) (r : RelV v u) (q : Q v H) (hd : (x == ("__debug__" : Str)) = false := by decide) : XE X (.Name x pos) σ H Q := ⟨_, pe_glob (C.gl hg) hm r hd, q⟩
theorem xe_bin {op : Operator} (h : XE X a σ H fun x H1 => XE X b σ H1 fun y H2 => VO X (binaryOp op) x y H2 Q) : XE X (.BinOp a op b pos) σ H Q := ⟨_, pe_op VO.ok XE.pe XE.pe, h⟩
theorem xe_un {op : UnaryOp} (h : XE X a σ H fun x H1 => VU X (unaryOp op) x H1 Q) : XE X (.UnaryOp op a pos) σ H Q := ⟨_, pe_un VU.ok XE.pe, h⟩
theorem xe_not (h : XE X a σ H fun v H1 => VT X v H1 fun c H2 => Q (.bl (!c)) H2) : XE X (.UnaryOp .Not a pos) σ H Q := ⟨_, pe_notT XE.pe, h.mono fun _ _ z => z.ex⟩
theorem xe_and {rest : List Expr} (h : XE X a σ H fun v H1 => VT X v H1 fun k H1 => if k = true then XE X (.BoolOp .And (b :: rest) pos) σ H1 Q else Q v H1) : XE X (.BoolOp .And (a :: b :: rest) pos) σ H Q := ⟨_, pe_andT XE.pe XE.pe, h.mono fun _ _ z => z.ex⟩
theorem xe_or {rest : List Expr} (h : XE X a σ H fun v H1 => VT X v H1 fun k H1 => if k = true then Q v H1 else XE X (.BoolOp .Or (b :: rest) pos) σ H1 Q) : XE X (.BoolOp .Or (a :: b :: rest) pos) σ H Q := ⟨_, pe_orT XE.pe XE.pe, h.mono fun _ _ z => z.ex⟩
theorem xe_one {op : BoolOp} (h : XE X a σ H Q) : XE X (.BoolOp op [a] pos) σ H Q := ⟨_, pe_one XE.pe, h⟩
theorem xe_cmp {op : CmpOp} (h : XE X a σ H fun x H1 => XE X b σ H1 fun y H2 => VO X (compareOp op) x y H2 Q) (hm : behindInMarks op b = false := by rfl) : XE X (.Compare a [op] [b] pos) σ H Q := ⟨_, pe_cmpR VO.ok XE.pe XE.pe hm, h⟩
theorem xe_chain {op op' : CmpOp} {c : Expr} (h : XE X a σ H fun x H1 => XE X b σ H1 fun y H2 => VO X (compareOp op) x y H2 fun z H3 => ∃ k, z = .bl k ∧
    if k = true then XE X c σ H3 (fun y' H4 => VO X (compareOp op') y y' H4 Q) else Q (.bl false) H3) (hm : lastMarks [op, op'] [b, c] = false := by with_unfolding_all rfl) : XE X (.Compare a [op, op'] [b, c] pos) σ H Q := ⟨_, pe_chain VO.ok VO.ok XE.pe XE.pe XE.pe hm, h⟩
theorem xe_ifExp {c : Expr} (h : XT X c σ H fun k H1 => if k = true then XE X a σ H1 Q else XE X b σ H1 Q) : XE X (.IfExp c a b pos) σ H Q := ⟨_, pe_ifExp XT.pt XE.pe XE.pe, h⟩
theorem xe_ix (h : XE X a σ H fun x H1 => XE X b σ H1 fun y H2 => VX X x y H2 Q) (hs : PlainIx b := by exact fun _ _ => rfl) : XE X (.Subscript a b pos) σ H Q := ⟨_, pe_ix VX.ok XE.pe XE.pe hs, h⟩
theorem xe_sl {lo hi : Option Expr} (h : XE X a σ H fun x H1 => XO X lo σ H1 fun l H2 => XO X hi σ H2 fun u H3 => VSl X x l u H3 Q) : XE X (.Subscript a (.Slice lo hi none p2) pos) σ H Q := ⟨_, pe_slice VSl.ok XE.pe XO.po XO.po, h⟩
theorem xo_none {R : Option Int → Hp → Prop} (h : R none H) : XO X none σ H R := ⟨_, po_none, h⟩
theorem xo_some {R : Option Int → Hp → Prop} (h : XE X a σ H fun x H1 => ∃ i, x = .int i ∧ R (some i) H1) : XO X (some a) σ H R := ⟨_, po_some XE.pe, h⟩
theorem xa_nil {R : List V → Hp → Prop} (h : R [] H) : XA X [] σ H R := ⟨_, pa_nil, h⟩
theorem xa_cons {R : List V → Hp → Prop} (h : XE X a σ H fun x H1 => XA X es σ H1 fun xs H2 => R (x :: xs) H2) (hs : starEach (a :: es) X.env = (false, eval a X.env) :: starEach es X.env := by rfl) : XA X (a :: es) σ H R := ⟨_, pa_cons XE.pe XA.pa hs, h⟩
theorem xa_star {R : List V → Hp → Prop} (h : XE X a σ H fun x H1 => ∃ p xs, x = .ref p ∧ (SqT X.K H1 p xs ∨ SqL X.K H1 p xs) ∧ XA X es σ H1 fun ys H2 => R (xs ++ ys) H2) (hs : starEach (.Starred a p2 :: es) X.env = (true, eval a X.env) :: starEach es X.env := by rfl) : XA X (.Starred a p2 :: es) σ H R := ⟨_, StX.pa_star XE.pe XA.pa hs, h⟩

/-- a new object -/
theorem new_ {H : Hp} {o : HO} {R : Addr → Hp → Prop} (h : ∀ p H', Kp [] H H' → H p = none → H' p = some o → R p H') (p : Addr) (hp : H p = none) : R p (upd H p o) := h p _ (Kp.new hp) hp upd_same
/-- a new tuple, wanted by what it holds alone -/
theorem newT {K : PySem.W.Frag} {H : Hp} {xs : List V} {R : V → Hp → Prop} (h : ∀ p H', Kp [] H H' → SqT K H' p xs → R (.ref p) H') (p : Addr) (hp : H p = none) : R (.ref p) (upd H p (.tup xs)) := h p _ (Kp.new hp) (.inl (.inl upd_same))
theorem xe_tup {j : Nat} (h : XA X es σ H fun vs H1 => vs.length ≤ sizeLine ∧ ∀ p H', Kp [] H1 H' → SqT X.K H' p vs → H' p = some (.tup vs) → Q (.ref p) H') : XE X (.Tuple es j pos) σ H Q :=
  ⟨_, pe_tup XA.pa, h.mono fun _ _ ⟨a, b⟩ => ⟨a, fun p hp => b p _ (Kp.new hp) (.inl (.inl upd_same)) upd_same⟩⟩
theorem xe_lst (h : XA X es σ H fun vs H1 => vs.length ≤ sizeLine ∧ ∀ p H', Kp [] H1 H' → H1 p = none → H' p = some (.lst vs) → Q (.ref p) H') : XE X (.List es pos) σ H Q :=
  ⟨_, pe_lst XA.pa, h.mono fun _ _ ⟨a, b⟩ => ⟨a, new_ b⟩⟩

/-! ## tests -/
variable {R : Bool → Hp → Prop}
theorem xt_val (h : XE X e σ H fun v H1 => VT X v H1 R) (he : ∀ whole, isTrue e X.env whole = (do let v ← whole; standAt e.pos; holding [v] (truthy v)) := by intro _; rfl) : XT X e σ H R := ⟨_, pt_truth XE.pe he, h.mono fun _ _ z => z.ex⟩
theorem xt_cmp {op : CmpOp} (h : XE X a σ H fun x H1 => XE X b σ H1 fun y H2 => VO X (compareOp op) x y H2 fun z H3 => ∃ k, z = .bl k ∧ R k H3) (hm : behindInMarks op b = false := by rfl) : XT X (.Compare a [op] [b] pos) σ H R := ⟨_, pt_cmpR VO.ok XE.pe XE.pe hm, h⟩
theorem xt_chain {op op' : CmpOp} {c : Expr} (h : XE X a σ H fun x H1 => XE X b σ H1 fun y H2 => VO X (compareOp op) x y H2 fun z H3 => ∃ k, z = .bl k ∧
    if k = true then XE X c σ H3 (fun y' H4 => VO X (compareOp op') y y' H4 fun z' H5 => ∃ k', z' = .bl k' ∧ R k' H5) else R false H3) (hm : lastMarks [op, op'] [b, c] = false := by with_unfolding_all rfl) : XT X (.Compare a [op, op'] [b, c] pos) σ H R := by
  refine ⟨_, pt_chain VO.ok VO.ok XE.pe XE.pe XE.pe hm, XE.mono h fun x H1 h => XE.mono h fun y H2 h => VO.mono h fun z H3 ⟨k, e, h⟩ => ⟨k, e, ?_⟩⟩
  cases k with
  | true => exact h
  | false => exact ⟨false, rfl, h⟩
theorem xt_not (h : XT X a σ H fun c H1 => R (!c) H1) : XT X (.UnaryOp .Not a pos) σ H R := ⟨_, pt_not XT.pt, h⟩
theorem xt_bool {op : BoolOp} {es : List Expr} (h : XW X (.BoolOp op es pos) σ H R) : XT X (.BoolOp op es pos) σ H R := ⟨_, XW.pw.pt, h⟩
theorem xw_and {rest : List Expr} (h : XT X a σ H fun c H1 => if c = true then XW X (.BoolOp .And (b :: rest) pos) σ H1 R else R false H1) : XW X (.BoolOp .And (a :: b :: rest) pos) σ H R := ⟨_, pw_and XT.pt XW.pw, h⟩
theorem xw_and1 (h : XT X a σ H R) : XW X (.BoolOp .And [a] pos) σ H R := ⟨_, pw_and1 XT.pt, h⟩
theorem xw_or {rest : List Expr} (h : XT X a σ H fun c H1 => if c = true then R true H1 else XW X (.BoolOp .Or (b :: rest) pos) σ H1 R) : XW X (.BoolOp .Or (a :: b :: rest) pos) σ H R := ⟨_, pw_or XT.pt XW.pw, h⟩
theorem xw_or1 (h : XT X a σ H R) : XW X (.BoolOp .Or [a] pos) σ H R := ⟨_, pw_or1 XT.pt, h⟩

/-! ## values: operators, tests, calls -/
variable {i j : Int} {p q : Addr} {xs ys : List V} {v : V}
theorem vo_add (h : Q (.int (i + j)) H) : VO X (binaryOp .Add) (.int i) (.int j) H Q := ⟨_, op_add, i, j, rfl, rfl, h⟩
theorem vo_sub (h : Q (.int (i - j)) H) : VO X (binaryOp .Sub) (.int i) (.int j) H Q := ⟨_, op_sub, i, j, rfl, rfl, h⟩
theorem vo_mul (c : CMul i j) (h : Q (.int (i * j)) H) : VO X (binaryOp .Mult) (.int i) (.int j) H Q := ⟨_, op_mul, i, j, rfl, rfl, c, h⟩
theorem vo_mulX (c : CMulX i j) (h : Q (.int (i * j)) H) : VO X (binaryOp .Mult) (.int i) (.int j) H Q := ⟨_, op_mulX, i, j, rfl, rfl, c, h⟩
theorem vo_fdiv (c : CDiv i j) (h : Q (.int (i / j)) H) : VO X (binaryOp .FloorDiv) (.int i) (.int j) H Q := ⟨_, op_fdiv, i, j, rfl, rfl, c, h⟩
theorem vo_mod (c : 0 < j) (h : Q (.int (i % j)) H) : VO X (binaryOp .Mod) (.int i) (.int j) H Q := ⟨_, op_mod, i, j, rfl, rfl, c, h⟩
theorem vo_pow (c : CPow i j) (h : Q (.int (i ^ j.toNat)) H) : VO X (binaryOp .Pow) (.int i) (.int j) H Q := ⟨_, op_pow, i, j, rfl, rfl, c, h⟩
theorem vo_shl (c : CPow i j) (h : Q (.int (i * 2 ^ j.toNat)) H) : VO X (binaryOp .LShift) (.int i) (.int j) H Q := ⟨_, op_shl, i, j, rfl, rfl, c, h⟩
theorem vo_and (h : Q (.int (Builtin.bitAnd i j)) H) : VO X (binaryOp .BitAnd) (.int i) (.int j) H Q := ⟨_, op_and, i, j, rfl, rfl, h⟩
theorem vo_lt (h : Q (.bl (decide (i < j))) H) : VO X (compareOp .Lt) (.int i) (.int j) H Q := ⟨_, op_lt, i, j, rfl, rfl, h⟩
theorem vo_le (h : Q (.bl (decide (i ≤ j))) H) : VO X (compareOp .LtE) (.int i) (.int j) H Q := ⟨_, op_le, i, j, rfl, rfl, h⟩
theorem vo_gt (h : Q (.bl (decide (j < i))) H) : VO X (compareOp .Gt) (.int i) (.int j) H Q := ⟨_, op_gt, i, j, rfl, rfl, h⟩
theorem vo_ge (h : Q (.bl (decide (j ≤ i))) H) : VO X (compareOp .GtE) (.int i) (.int j) H Q := ⟨_, op_ge, i, j, rfl, rfl, h⟩
theorem vo_eq (h : Q (.bl (decide (i = j))) H) : VO X (compareOp .Eq) (.int i) (.int j) H Q := by
  refine ⟨_, op_eq, rfl, ?_⟩
  have e : decide (V.int i = V.int j) = decide (i = j) := by by_cases e : i = j <;> simp [e]
  rw [e]; exact h
theorem vo_ne (h : Q (.bl (!decide (i = j))) H) : VO X (compareOp .NotEq) (.int i) (.int j) H Q := by
  refine ⟨_, op_ne, rfl, ?_⟩
  have e : decide (V.int i = V.int j) = decide (i = j) := by by_cases e : i = j <;> simp [e]
  rw [e]; exact h
theorem vo_eqB {i j : Bool} (h : Q (.bl (i == j)) H) : VO X (compareOp .Eq) (.bl i) (.bl j) H Q := ⟨_, op_eq, rfl, by rw [dec_bl]; exact h⟩
theorem vo_neB {i j : Bool} (h : Q (.bl (!(i == j))) H) : VO X (compareOp .NotEq) (.bl i) (.bl j) H Q := ⟨_, op_ne, rfl, by rw [dec_bl]; exact h⟩
theorem vo_isB {i j : Bool} (h : Q (.bl (decide (i = j))) H) : VO X (compareOp .Is) (.bl i) (.bl j) H Q := ⟨_, op_isBl, i, j, rfl, rfl, h⟩
theorem vo_notB {i j : Bool} (h : Q (.bl (!decide (i = j))) H) : VO X (compareOp .IsNot) (.bl i) (.bl j) H Q := ⟨_, op_notBl, i, j, rfl, rfl, h⟩
theorem vo_isN (h : Q (.bl (decide (v = .non))) H) : VO X (compareOp .Is) v .non H Q := ⟨_, op_isN, rfl, h⟩
theorem vo_notN (h : Q (.bl (!decide (v = .non))) H) : VO X (compareOp .IsNot) v .non H Q := ⟨_, op_notN, rfl, h⟩
theorem vo_catT (hx : SqT X.K H p xs) (hy : SqT X.K H q ys) (hz : xs.length + ys.length ≤ sizeLine) (h : ∀ r H', Kp [] H H' → SqT X.K H' r (xs ++ ys) → Q (.ref r) H') : VO X (binaryOp .Add) (.ref p) (.ref q) H Q := by
  refine ⟨_, op_catA, p, q, xs, ys, rfl, rfl, hx, hy, hz, fun e => ?_, fun _ e => ?_, fun _ _ r hr => h r _ (Kp.new hr) (.inl (.inl upd_same))⟩
  · subst e; exact h q H (Kp.refl _ _) hy
  · subst e; exact h p H (Kp.refl _ _) (by simpa using hx)
theorem vo_catL (hx : H p = some (.lst xs)) (hy : H q = some (.lst ys)) (hz : xs.length + ys.length ≤ sizeLine) (h : ∀ r H', Kp [] H H' → H r = none → H' r = some (.lst (xs ++ ys)) → Q (.ref r) H') : VO X (binaryOp .Add) (.ref p) (.ref q) H Q :=
  ⟨_, op_cat, p, q, xs, ys, rfl, rfl, hx, hy, hz, new_ h⟩
theorem vu_neg (h : Q (.int (-i)) H) : VU X (unaryOp .USub) (.int i) H Q := ⟨_, un_neg, i, rfl, h⟩
theorem vx_tup (hx : SqT X.K H p xs) (hi : atI xs i = some v) (h : Q v H) : VX X (.ref p) (.int i) H Q := ⟨_, ix_tup, p, xs, i, v, rfl, rfl, hx, hi, h⟩
theorem vx_lst (hx : SqL X.K H p xs) (hi : atI xs i = some v) (h : Q v H) : VX X (.ref p) (.int i) H Q := ⟨_, ix_list, p, xs, i, v, rfl, rfl, hx, hi, h⟩
theorem vsl_tup {lo hi : Option Int} (hx : SqT X.K H p xs) (h : ∀ r H', Kp [] H H' → SqT X.K H' r (cutV xs lo hi) → Q (.ref r) H') : VSl X (.ref p) lo hi H Q := by
  refine ⟨_, sl_tupA, p, xs, rfl, hx, fun e => ?_, fun _ r hr => h r _ (Kp.new hr) (.inl (.inl upd_same))⟩
  refine h p H (Kp.refl _ _) ?_
  have e2 : cutV xs lo hi = xs := by unfold cutV; rw [e.1, e.2]; simp
  rw [e2]; exact hx
theorem vsl_lst {lo hi : Option Int} (hx : SqL X.K H p xs) (h : ∀ r H', Kp [] H H' → H r = none → H' r = some (.lst (cutV xs lo hi)) → Q (.ref r) H') : VSl X (.ref p) lo hi H Q := ⟨_, sl_list, p, xs, rfl, hx, new_ h⟩
theorem vt_bl {c : Bool} (h : R c H) : VT X (.bl c) H R := ⟨c, rfl, h⟩
theorem vt_int (h : R (i != 0) H) : VT X (.int i) H R := ⟨_, rfl, h⟩
theorem vt_tup (hx : SqT X.K H p xs) (h : R (!xs.isEmpty) H) : VT X (.ref p) H R := ⟨_, .inr (.inl ⟨xs, hx, rfl⟩), h⟩
theorem vt_lst (hx : SqL X.K H p xs) (h : R (!xs.isEmpty) H) : VT X (.ref p) H R := ⟨_, .inl ⟨xs, hx, rfl⟩, h⟩
theorem vc_lenT (hx : SqT X.K H p xs) (h : Q (.int xs.length) H) : VC X (.builtin "len") [.ref p] H Q := ⟨_, call_len_seq, p, xs, rfl, .inr hx, h⟩
theorem vc_lenL (hx : SqL X.K H p xs) (h : Q (.int xs.length) H) : VC X (.builtin "len") [.ref p] H Q := ⟨_, call_len_seq, p, xs, rfl, .inl hx, h⟩
theorem vc_int (h : Q (.int i) H) : VC X (.type "int") [.int i] H Q := ⟨_, call_int1, .inl ⟨i, rfl, h⟩⟩
theorem vc_intB {c : Bool} (h : Q (.int (if c then 1 else 0)) H) : VC X (.type "int") [.bl c] H Q := ⟨_, call_int1, .inr ⟨c, rfl, h⟩⟩
theorem vc_abs (h : Q (.int (if i < 0 then -i else i)) H) : VC X (.builtin "abs") [.int i] H Q := ⟨_, call_abs, i, rfl, h⟩
theorem vc_listT (hx : SqT X.K H p xs) (h : ∀ r H', Kp [] H H' → H r = none → H' r = some (.lst xs) → Q (.ref r) H') : VC X (.type "list") [.ref p] H Q := ⟨_, call_list_of, p, xs, rfl, .inr hx, new_ h⟩
theorem vc_listL (hx : SqL X.K H p xs) (h : ∀ r H', Kp [] H H' → H r = none → H' r = some (.lst xs) → Q (.ref r) H') : VC X (.type "list") [.ref p] H Q := ⟨_, call_list_of, p, xs, rfl, .inl hx, new_ h⟩
theorem vc_tupL (hx : SqL X.K H p xs) (h : ∀ r H', Kp [] H H' → SqT X.K H' r xs → Q (.ref r) H') : VC X (.type "tuple") [.ref p] H Q := ⟨_, call_tuple_of, p, xs, rfl, .inl ⟨hx, newT h⟩⟩
theorem vc_isi {x : V} {t c : String} {u : Bool} (ht : TyX X.K H x (.type t)) (hk : kitB t c = some u) (h : Q (.bl u) H) : VC X (.builtin "isinstance") [x, .ty c] H Q := ⟨_, call_isi, x, .ty c, .type t, .type c, u, rfl, .ty c, ht, kit_ty hk, h⟩

/-! ## calls -/
/-- a def of the module and its promise -/
structure DefOk (P : Program) (w : World) (K : PySem.W.Frag) (mg : Str → Option Value) (base : Heap) (x : Str) (ps : List Str) (k : Nat) (sp : Sp) : Prop where
  ex : ∃ f fd, FnOk P w K mg base CX0 k f fd ps sp ∧ mg x = some (.ref f) ∧ PySem.W.keepIn K (.ref f) = true ∧ Binds K fd ps []
variable {x : Str} {ps : List Str} {k' : Nat} {sp : Sp}
theorem xe_call (C : Ctx X sc N Vs Ls G k) (F : DefOk X.prog X.w X.K X.mg X.base x ps k' sp) (hg : Mem G x) (hk : k' ≤ k) (h : XA X (a :: es) σ H fun vs H1 => sp vs H1 Q E0)
    (hdb : (x == ("__debug__" : Str)) = false := by decide) (he : starEach (a :: es) X.env = (false, eval a X.env) :: starEach es X.env := by rfl) (hpl : (backTo pos (starEach es X.env)).any (·.1) = false := by rfl) : XE X (.Call (.Name x p1) (a :: es) [] pos) σ H Q := by
  obtain ⟨f, fd, F, hm, kp, b⟩ := F.ex
  exact ⟨_, pe_call F (C.room.mono hk) (C.gl hg) hm kp b .nil pass0 XA.pa hdb he hpl, by
    refine XA.mono h fun vs H1 q => ?_
    rw [List.append_nil]; exact q⟩
theorem xe_callB {id : String} (C : Ctx X sc N Vs Ls G k) (hg : Mem G x) (hm : X.mg x = none) (hv : bootBuiltins x = some (.builtin id)) (h : XA X (a :: es) σ H fun vs H1 => VC X (.builtin id) vs H1 Q)
    (hn : x ≠ "__name__" := by decide) (hdb : (x == ("__debug__" : Str)) = false := by decide) (he : starEach (a :: es) X.env = (false, eval a X.env) :: starEach es X.env := by rfl) (hpl : (backTo pos (starEach es X.env)).any (·.1) = false := by rfl) :
    XE X (.Call (.Name x p1) (a :: es) [] pos) σ H Q := ⟨_, pe_callB VC.ok (C.gl hg) hm hv XA.pa hn hdb he hpl, h⟩
theorem xe_callTy {id : String} (C : Ctx X sc N Vs Ls G k) (hg : Mem G x) (hm : X.mg x = none) (hv : bootBuiltins x = some (.type id)) (h : XA X (a :: es) σ H fun vs H1 => VC X (.type id) vs H1 Q)
    (hn : x ≠ "__name__" := by decide) (hdb : (x == ("__debug__" : Str)) = false := by decide) (he : starEach (a :: es) X.env = (false, eval a X.env) :: starEach es X.env := by rfl) (hpl : (backTo pos (starEach es X.env)).any (·.1) = false := by rfl) :
    XE X (.Call (.Name x p1) (a :: es) [] pos) σ H Q := ⟨_, pe_callTy VC.ok (C.gl hg) hm hv XA.pa hn hdb he hpl, h⟩
/-- a built-in type's name as a value -/
theorem xe_ty {id : String} (C : Ctx X sc N Vs Ls G k) (hg : Mem G x) (hm : X.mg x = none) (hv : bootBuiltins x = some (.type id)) (h : Q (.ty id) H) (hn : x ≠ "__name__" := by decide) (hdb : (x == ("__debug__" : Str)) = false := by decide) : XE X (.Name x pos) σ H Q :=
  ⟨_, pe_bltn (v := .ty id) (C.gl hg) hm hv rfl hn hdb, h⟩
/-- n.bit_length() -/
theorem xe_bits {apos : Pos} (h : XE X a σ H fun y H1 => ∃ i, y = .int i ∧ Q (.int (Builtin.Int.intBits i : Nat)) H1) (hbase : attributeBase a "bit_length" X.env (eval a X.env) = eval a X.env := by rfl) (hline : (apos.endLine == pos.line) = true := by rfl) :
    XE X (.Call (.Attribute a "bit_length" apos) [] [] pos) σ H Q := ⟨_, pe_bits XE.pe hbase hline, h⟩
/-- o.f -/
theorem xe_fld {f : Str} (h : XE X a σ H fun y H1 => ∃ p C dx fs v, y = .ref p ∧ H1 p = some (.ins C dx fs) ∧ Cls X.K C ∧ NoAttr X.K C f ∧ fs.lookup f = some v ∧ Q v H1) (hb : attributeBase a f X.env (eval a X.env) = eval a X.env := by rfl) : XE X (.Attribute a f pos) σ H Q :=
  ⟨_, pe_fld XE.pe hb, h⟩
/-- xs.append(y) -/
theorem xe_append {apos : Pos} (h : XE X a σ H fun y H1 => ∃ l xs, y = .ref l ∧ H1 l = some (.lst xs) ∧ XE X b σ H1 fun z H2 => H2 l = some (.lst xs) ∧ xs.length < sizeLine ∧ ∀ H', Kp [l] H2 H' → H' l = some (.lst (xs ++ [z])) → Q .non H')
    (hbase : attributeBase a "append" X.env (eval a X.env) = eval a X.env := by rfl) (hs : starEach (b :: []) X.env = (false, eval b X.env) :: starEach [] X.env := by rfl) (hline : (apos.endLine == pos.line) = true := by rfl)
    (hfew : ((backTo pos (starEach [b] X.env)).all (fun x => !x.1) && (backToKw pos (keywordEach [] X.env)).all (fun x => x.1.isSome) && decide (([b] : List Expr).length + ([] : List Keyword).length + (if ([] : List Keyword).isEmpty then 0 else 1) < 30)) = true := by rfl)
    : XE X (.Call (.Attribute a "append" apos) [b] [] pos) σ H Q := by
  refine ⟨_, pe_bm PySem.F.plainAttrs_list PySem.F.slot_list_append PySem.F.type_list_append mt_append XE.pe XA.pa hbase hfew hline hs, ?_⟩
  refine XE.mono h fun y H1 ⟨l, xs, e, hl, q⟩ => ?_
  subst e
  refine ⟨.inl ⟨rfl, xs, .inl (.inl hl)⟩, xa_cons (hs := hs) (XE.mono q fun z H2 ⟨hl2, hz, q⟩ => xa_nil ?_)⟩
  exact ⟨l, xs, z, rfl, rfl, hl2, hz, q _ (Kp.set hl2 rfl) upd_same⟩

/-! ## statements -/
variable {s : Stmt} {sts sts' : List Stmt}
theorem xb_nil (h : nx σ H) : XB X [] nx D σ H := ⟨_, pss_nil, h⟩
theorem xb_cons (h : XS X s (fun σ' H' => XB X sts nx D σ' H') D σ H) : XB X (s :: sts) nx D σ H := ⟨_, pss_cons XS.ps XB.ps, h⟩
theorem xs_pass (h : nx σ H) : XS X (.Pass pos) nx D σ H := ⟨_, ps_pass, h⟩
theorem xs_break (h : D.bk σ H) : XS X (.Break pos) nx D σ H := ⟨_, ps_break, h⟩
theorem xs_cont (h : D.ct σ H) : XS X (.Continue pos) nx D σ H := ⟨_, ps_continue, h⟩
theorem xs_expr (h : XE X e σ H fun _ H1 => nx σ H1) (hs : swapsWith e none pos.line X.env = pure false := by rfl) : XS X (.Expr e pos) nx D σ H := ⟨_, ps_expr XE.pe hs, h⟩
theorem xs_ret (h : XE X e σ H D.rt) : XS X (.Return (some e) pos) nx D σ H := ⟨_, ps_ret XE.pe, h⟩
theorem xs_retN (h : D.rt .non H) : XS X (.Return none pos) nx D σ H := ⟨_, ps_retN, h⟩
theorem xs_if {c : Expr} (h : XT X c σ H fun k H1 => if k = true then XB X sts nx D σ H1 else XB X sts' nx D σ H1) : XS X (.If c sts sts' pos) nx D σ H := ⟨_, ps_if XT.pt XB.ps XB.ps, h⟩
theorem xs_set (C : Ctx X sc N Vs Ls G k) (h : XE X e σ H fun v H1 => ∃ σ', Put N σ x v σ' ∧ nx σ' H1) (hs : swapsWith e (some (.Name x p1)) pos.line X.env = pure false := by rfl) (hx : Mem N x) (hl : Mem Ls x) : XS X (.Assign [.Name x p1] e pos) nx D σ H := by
  have hx' := hx.mem
  obtain ⟨i, hi⟩ := List.getElem?_of_mem hx'
  refine ⟨_, ps_set (i := i) (by rw [C.hN]; exact C.nd) (by rw [C.hN]; exact hi) (C.loc hl) XE.pe hs (.inl (C.fn x hl.mem)), ?_⟩
  refine XE.mono h fun v H1 ⟨σ', hp, q⟩ => ?_
  obtain ⟨j, hj, e⟩ := hp.ix
  have ij : i = j := nd_ix C.nd hi hj
  subst ij
  show nx (σ.set i (some v)) H1
  rw [e]; exact q
theorem xg_name (C : Ctx X sc N Vs Ls G k) {v : V} {Q : St → Hp → Prop} (hx : Mem N x) (hl : Mem Ls x) (h : ∃ σ', Put N σ x v σ' ∧ Q σ' H) : XG X (.Name x p1) v σ H Q := by
  have hx' := hx.mem
  obtain ⟨i, hi⟩ := List.getElem?_of_mem hx'
  refine ⟨_, pg_name (i := i) (by rw [C.hN]; exact C.nd) (by rw [C.hN]; exact hi) (C.loc hl) (.inl (C.fn x hl.mem)), ?_⟩
  obtain ⟨σ', hp, q⟩ := h
  obtain ⟨j, hj, e⟩ := hp.ix
  have ij : i = j := nd_ix C.nd hi hj
  subst ij
  show Q (σ.set i (some v)) H
  rw [e]; exact q
theorem XG.mono {v : V} {Q Q' : St → Hp → Prop} (h : XG X e v σ H Q) (m : ∀ σ H, Q σ H → Q' σ H) : XG X e v σ H Q' := by
  obtain ⟨t, ht, q⟩ := h
  refine ⟨fun v σ H R => ∃ R', t v σ H R' ∧ ∀ σ H', R' σ H' → R σ H', ⟨fun pins s σ H v u R I r ⟨R', q, m⟩ => ?_⟩, Q, q, m⟩
  exact thn (ht.run pins s σ H v u R' I r q) fun _ s ⟨σ', H', I', z⟩ => ⟨σ', H', I', m _ _ z⟩
/-- a, b, .. = a tuple -/
theorem xg_tup {j : Nat} {v : V} {Q : St → Hp → Prop} (C : Ctx X sc N Vs Ls G k) (h : ∃ p xs, v = .ref p ∧ SqT X.K H p xs ∧ xs.length = (assignEach es X.env).length ∧ XGs X es xs σ H Q) (hst : (assignEach es X.env).findIdx? (·.1) = none := by rfl) : XG X (.Tuple es j pos) v σ H Q :=
  ⟨_, pg_tup C.calm XGs.pgs rfl hst, h⟩
/-- o[i] = v -/
theorem xs_setIx {o i : Expr} (h : XE X e σ H fun v H1 => XE X o σ H1 fun ov H2 => XE X i σ H2 fun iv H3 => ∃ l xs k j, ov = .ref l ∧ iv = .int k ∧ H3 l = some (.lst xs) ∧ ixN xs.length k = some j ∧ ∀ H', Kp [l] H3 H' → H' l = some (.lst (xs.set j v)) → nx σ H')
    (ha : ∀ v, assign (.Subscript o i p1) X.env v = (do
      let z1 ← holding [v] (eval o X.env)
      let z2 ← holding [v, z1] (eval i X.env)
      standAt p1; holding [v, z1, z2] (setItem z1 z2 v)
      release [v, z1, z2] []) := by intro _; rfl)
    (hs : swapsWithSole [.Subscript o i p1] e pos.line X.env = pure false := by rfl) (hw : swappedStores [.Subscript o i p1] e X.env = pure none := by rfl)
    (h1 : (assignEach [.Subscript o i p1] X.env).map (·.2) = [assign (.Subscript o i p1) X.env] := by rfl) : XS X (.Assign [.Subscript o i p1] e pos) nx D σ H := by
  refine ⟨_, ps_asg XE.pe (pg_sub XE.pe XE.pe set_list ha) hs hw h1, ?_⟩
  refine XE.mono h fun v H1 h => XE.mono h fun ov H2 h => XE.mono h fun iv H3 ⟨l, xs, k, j, e1, e2, hl, hj, q⟩ => ?_
  exact ⟨l, xs, k, j, e1, e2, hl, hj, q _ (Kp.set hl rfl) upd_same⟩
theorem XB.imp {nx' : St → Hp → Prop} (h : XB X sts nx D σ H) (m : ∀ σ H, nx σ H → nx' σ H) : XB X sts nx' D σ H := by
  obtain ⟨t, ht, q⟩ := h
  refine ⟨fun D σ H => ∃ nx0, t ⟨nx0, D.rt, D.bk, D.ct⟩ σ H ∧ ∀ σ H, nx0 σ H → D.nx σ H, ⟨fun pins s σ H D I ⟨nx0, q, m⟩ => thn (ht.run pins s σ H _ I q) fun f s1 z => ?_⟩, nx, q, m⟩
  cases f with
  | next => obtain ⟨σ', H', I', z⟩ := z; exact ⟨σ', H', I', m _ _ z⟩
  | brk => exact z
  | cont => exact z
  | ret u => exact z

/-! ## loops -/
variable {tg iter : Expr} {body : List Stmt}
/-- for x in a tuple; a list that stands still; a range -/
theorem xs_forT (C : Ctx X sc N Vs Ls G k) (h : XE X iter σ H fun v H1 => ∃ a xs, v = .ref a ∧ SqT X.K H1 a xs ∧ ∃ Pv : Nat → St → Hp → Prop, Pv 0 σ H1 ∧ (∀ i σ' H', i ≤ xs.length → Pv i σ' H' → SqT X.K H' a xs) ∧
    (∀ i y σ' H', xs[i]? = some y → Pv i σ' H' → XG X tg y σ' H' fun σ2 H2 => XB X body (Pv (i + 1)) ⟨D.rt, nx, Pv (i + 1)⟩ σ2 H2) ∧ ∀ σ' H', Pv xs.length σ' H' → nx σ' H')
    (hs : ∀ x, foldedSetIterable iter X.env x = pure x := by intro _; rfl) : XS X (.For tg iter body [] pos) nx D σ H := by
  refine ⟨_, ps_for C.po C.calm (pi_tup XE.pe) XG.pg XB.ps hs, ?_⟩
  refine XE.mono h fun v H1 ⟨a, xs, e, hx, Pv, h0, hl, hs, hd⟩ => ⟨a, e, ⟨xs, hx⟩, ?_⟩
  exact for_tup (K := X.K) (a := a) (xs := xs) (D := ⟨nx, D.rt, D.bk, D.ct⟩) (g := XG X tg) (tb := fun D σ H => XB X body D.nx ⟨D.rt, D.bk, D.ct⟩ σ H) Pv h0 hl hs hd
theorem xs_forL (C : Ctx X sc N Vs Ls G k) (h : XE X iter σ H fun v H1 => ∃ a xs, v = .ref a ∧ SqL X.K H1 a xs ∧ ∃ Pv : Nat → St → Hp → Prop, Pv 0 σ H1 ∧ (∀ i σ' H', i ≤ xs.length → Pv i σ' H' → SqL X.K H' a xs) ∧
    (∀ i y σ' H', xs[i]? = some y → Pv i σ' H' → XG X tg y σ' H' fun σ2 H2 => XB X body (Pv (i + 1)) ⟨D.rt, nx, Pv (i + 1)⟩ σ2 H2) ∧ ∀ σ' H', Pv xs.length σ' H' → nx σ' H')
    (hs : ∀ x, foldedSetIterable iter X.env x = pure x := by intro _; rfl) : XS X (.For tg iter body [] pos) nx D σ H := by
  refine ⟨_, ps_for C.po C.calm (pi_list XE.pe) XG.pg XB.ps hs, ?_⟩
  refine XE.mono h fun v H1 ⟨a, xs, e, hx, Pv, h0, hl, hs, hd⟩ => ⟨a, e, ⟨xs, hx⟩, ?_⟩
  exact for_list (K := X.K) (a := a) (xs := xs) (D := ⟨nx, D.rt, D.bk, D.ct⟩) (g := XG X tg) (tb := fun D σ H => XB X body D.nx ⟨D.rt, D.bk, D.ct⟩ σ H) Pv h0 hl hs hd
theorem xs_forR1 (C : Ctx X sc N Vs Ls G k) (hg : Mem G "range") (hm : X.mg "range" = none) (h : XA X [a] σ H fun vs H1 => ∃ j : Int, vs = [.int j] ∧ -(2 ^ 62) ≤ j ∧ j < 2 ^ 62 ∧ ∃ Pv : Nat → St → Hp → Prop, Pv 0 σ H1 ∧
    (∀ i σ' H', i < j.toNat → Pv i σ' H' → XG X tg (.int i) σ' H' fun σ2 H2 => XB X body (Pv (i + 1)) ⟨D.rt, nx, Pv (i + 1)⟩ σ2 H2) ∧ ∀ σ' H', Pv j.toNat σ' H' → nx σ' H')
    (hst : starEach [a] X.env = [(false, eval a X.env)] := by rfl) (hs : ∀ x, foldedSetIterable (.Call (.Name "range" p1) [a] [] p2) X.env x = pure x := by intro _; rfl) : XS X (.For tg (.Call (.Name "range" p1) [a] [] p2) body [] pos) nx D σ H := by
  refine ⟨_, ps_for C.po C.calm (pi_range1 (C.gl hg) hm XA.pa hst) XG.pg XB.ps hs, ?_⟩
  refine XA.mono h fun v H1 ⟨j, e, h1, h2, Pv, h0, hs, hd⟩ => ⟨j, e, h1, h2, ?_⟩
  refine for_range (lo := 0) (n := j.toNat) (D := ⟨nx, D.rt, D.bk, D.ct⟩) (g := XG X tg) (tb := fun D σ H => XB X body D.nx ⟨D.rt, D.bk, D.ct⟩ σ H) Pv h0 (fun i σ H hi p => ?_) hd
  rw [Int.zero_add]; exact hs i σ H hi p
theorem xs_forR2 (C : Ctx X sc N Vs Ls G k) (hg : Mem G "range") (hm : X.mg "range" = none) (h : XA X [a, b] σ H fun vs H1 => ∃ l j : Int, vs = [.int l, .int j] ∧ (-(2 ^ 62) ≤ l ∧ l < 2 ^ 62 ∧ -(2 ^ 62) ≤ j ∧ j < 2 ^ 62) ∧ ∃ Pv : Nat → St → Hp → Prop, Pv 0 σ H1 ∧
    (∀ i σ' H', i < (j - l).toNat → Pv i σ' H' → XG X tg (.int (l + i)) σ' H' fun σ2 H2 => XB X body (Pv (i + 1)) ⟨D.rt, nx, Pv (i + 1)⟩ σ2 H2) ∧ ∀ σ' H', Pv (j - l).toNat σ' H' → nx σ' H')
    (hst : starEach [a, b] X.env = [(false, eval a X.env), (false, eval b X.env)] := by rfl) (hs2 : starEach [b] X.env = [(false, eval b X.env)] := by rfl)
    (hs : ∀ x, foldedSetIterable (.Call (.Name "range" p1) [a, b] [] p2) X.env x = pure x := by intro _; rfl) : XS X (.For tg (.Call (.Name "range" p1) [a, b] [] p2) body [] pos) nx D σ H := by
  refine ⟨_, ps_for C.po C.calm (pi_range2 (C.gl hg) hm XA.pa hst hs2) XG.pg XB.ps hs, ?_⟩
  refine XA.mono h fun v H1 ⟨l, j, e, h1, Pv, h0, hs, hd⟩ => ⟨l, j, e, h1, ?_⟩
  exact for_range (lo := l) (n := (j - l).toNat) (D := ⟨nx, D.rt, D.bk, D.ct⟩) (g := XG X tg) (tb := fun D σ H => XB X body D.nx ⟨D.rt, D.bk, D.ct⟩ σ H) Pv h0 hs hd

theorem XS.imp {nx' : St → Hp → Prop} (h : XS X s nx D σ H) (m : ∀ σ H, nx σ H → nx' σ H) : XS X s nx' D σ H := by
  obtain ⟨t, ht, q⟩ := h
  refine ⟨fun D σ H => ∃ nx0, t ⟨nx0, D.rt, D.bk, D.ct⟩ σ H ∧ ∀ σ H, nx0 σ H → D.nx σ H, ⟨fun pins s σ H D I ⟨nx0, q, m⟩ => thn (ht.run pins s σ H _ I q) fun f s1 z => ?_⟩, nx, q, m⟩
  cases f with
  | next => obtain ⟨σ', H', I', z⟩ := z; exact ⟨σ', H', I', m _ _ z⟩
  | brk => exact z
  | cont => exact z
  | ret u => exact z

/-! ## comprehensions -/
def XLC (X : Cx) (elt tg iter : Expr) (ifs : List Expr) (scope : Scope) (σ : St) (H : Hp) (Q : VK) : Prop := ∃ (wi : TI) (g : TG) (tt : TT) (te : TE) (own : List (Str × Nat)), PI X tg iter wi ∧ BlkOk X.N X.env.scope scope own ∧
  (∀ (s : Shared) (H : Hp) (c : Addr) (cl : List (Str × Addr)) (fp : List Addr), PG (X.blk s H scope (compEnvC scope cl c X.env) fp) tg g) ∧ (∀ (s : Shared) (H : Hp) (c : Addr) (cl : List (Str × Addr)) (fp : List Addr), PTs (X.blk s H scope (compEnvC scope cl c X.env) fp) ifs tt) ∧
  (∀ (s : Shared) (H : Hp) (c : Addr) (cl : List (Str × Addr)) (fp : List Addr), PE (X.blk s H scope (compEnvC scope cl c X.env) fp) elt te) ∧ (∀ σ H R R', (∀ J H, R J H → R' J H) → wi σ H R → wi σ H R') ∧ tLc wi g tt te (own.map (·.2)) σ H Q
variable {elt : Expr} {ifs : List Expr} {scope : Scope}
theorem tLc_mono {wi : TI} {g : TG} {tt : TT} {te : TE} {vs : List Nat} {Q Q' : VK} (hw : ∀ σ H R R', (∀ J H, R J H → R' J H) → wi σ H R → wi σ H R') (h : tLc wi g tt te vs σ H Q) (m : ∀ v H, Q v H → Q' v H) : tLc wi g tt te vs σ H Q' := by
  refine hw _ _ _ _ (fun J H1 h D hD => ?_) h
  obtain ⟨W, h0, h⟩ := h D hD
  refine ⟨W, h0, fun i n H w => ?_⟩
  rcases h i n H w with ⟨a, b⟩ | b
  · exact .inl ⟨a, m _ _ b⟩
  · exact .inr b
theorem xe_lc (C : Ctx X sc N Vs Ls G k) (h : XLC X elt tg iter ifs scope σ H Q) (hs : ∀ x, foldedSetIterable iter X.env x = pure x := by intro _; rfl) : XE X (.ListComp elt [⟨tg, iter, ifs, 0⟩] scope pos) σ H Q := by
  obtain ⟨wi, g, tt, te, own, h1, h2, h3, h4, h5, h6, q⟩ := h
  exact ⟨_, pe_lc C.calm (by rw [C.hN]; exact C.nd) h1 h2 h3 h4 h5 hs, q⟩
/-- y = [..], y a plain local -/
theorem xs_setLc {y : Str} (C : Ctx X sc N Vs Ls G k) (hm : Mem N y) (hyl : sc.names.lookup y = some .local) (hl : (p1.line == pos.line) = true) (ha : (scope.names.any fun (n, k) => n == y && (k == .local || k == .cell)) = false)
    (h : XLC X elt tg iter ifs scope σ H fun v H1 => ∃ σ', Put N σ y v σ' ∧ nx σ' H1) (hs : ∀ x, foldedSetIterable iter X.env x = pure x := by intro _; rfl) : XS X (.Assign [.Name y p1] (.ListComp elt [⟨tg, iter, ifs, 0⟩] scope pos) p2) nx D σ H := by
  obtain ⟨wi, g, tt, te, own, h1, h2, h3, h4, h5, h6, q⟩ := h
  obtain ⟨i, hi⟩ := List.getElem?_of_mem hm.mem
  have hyl' : X.env.scope.names.lookup y = some .local := by rw [C.esc]; exact hyl
  refine XS.imp (nx := fun σ1 H1 => ∃ v, σ1 = σ.set i (some v) ∧ ∃ σ', Put N σ y v σ' ∧ nx σ' H1) ⟨_, ps_setLc (i := i) C.calm (by rw [C.hN]; exact C.nd) (by rw [C.hN]; exact hi) hyl' (sw_true (by rw [C.esc]; exact C.knd) hyl' hl ha) h1 h2 h3 h4 h5 hs, ?_⟩ ?_
  · exact tLc_mono h6 q fun v H1 z => ⟨v, rfl, z⟩
  · rintro σ1 H1 ⟨v, rfl, σ', hp, q⟩
    obtain ⟨j, hj, e⟩ := hp.ix
    have ij : i = j := nd_ix C.nd hi hj
    subst ij
    rw [e]; exact q
/-- y = [..], y a name that a comprehension reads (a cell) -/
theorem blk_ctx {Vs' G' : List Str} {s : Shared} {H : Hp} {c : Addr} {cl : List (Str × Addr)} {fp : List Addr} (C : Ctx X sc N Vs Ls G k) (h : okC (relS scope sc) Vs' [] G' = true) (hk : scope.kind = .function) :
    Ctx (X.blk s H scope (compEnvC scope cl c X.env) fp) (relS scope sc) N Vs' [] G' k :=
  ⟨C.hN, C.nd, by rw [← C.esc]; rfl, h, C.calm, fun _ m => (nomatch m), rfl, hk, C.room⟩

/-- what one turn of a comprehension asks: the target's slot, the test (one or none), the element -/
def XEC (X : Cx) (sc scope : Scope) (N Vs' G' : List Str) (k : Nat) (elt : Expr) : TE := fun σ H Q => ∀ (s0 : Shared) (H0 : Hp) (c : Addr) (cl : List (Str × Addr)) (fp : List Addr), Ctx (X.blk s0 H0 scope (compEnvC scope cl c X.env) fp) (relS scope sc) N Vs' [] G' k → XE (X.blk s0 H0 scope (compEnvC scope cl c X.env) fp) elt σ H Q
def XTC (X : Cx) (sc scope : Scope) (N Vs' G' : List Str) (k : Nat) (elt : Expr) : TT := fun σ H Q => ∀ (s0 : Shared) (H0 : Hp) (c : Addr) (cl : List (Str × Addr)) (fp : List Addr), Ctx (X.blk s0 H0 scope (compEnvC scope cl c X.env) fp) (relS scope sc) N Vs' [] G' k → XT (X.blk s0 H0 scope (compEnvC scope cl c X.env) fp) elt σ H Q
def XTurn (X : Cx) (sc scope : Scope) (N Vs' G' : List Str) (k : Nat) (nm : Str) (ifs : List Expr) (elt : Expr) (σ : St) (y : V) (H : Hp) (L : Addr) (Nx : Hp → Prop) : Prop :=
  ∃ σ', Put N σ nm y σ' ∧ 
    match ifs with
    | [] => XEC X sc scope N Vs' G' k elt σ' H fun z H4 => ∃ acc, H4 L = some (.lst acc) ∧ acc.length < sizeLine ∧ ∀ H5, Kp [L] H4 H5 → H5 L = some (.lst (acc ++ [z])) → Nx H5
    | c' :: _ => XTC X sc scope N Vs' G' k c' σ' H fun b H3 => if b = true then XEC X sc scope N Vs' G' k elt σ' H3 (fun z H4 => ∃ acc, H4 L = some (.lst acc) ∧ acc.length < sizeLine ∧ ∀ H5, Kp [L] H4 H5 → H5 L = some (.lst (acc ++ [z])) → Nx H5) else Nx H3
def teC (X : Cx) (scope : Scope) (elt : Expr) : TE := fun σ H Q => ∀ (s0 : Shared) (H0 : Hp) (c : Addr) (cl : List (Str × Addr)) (fp : List Addr), XE (X.blk s0 H0 scope (compEnvC scope cl c X.env) fp) elt σ H Q
def ttC (X : Cx) (scope : Scope) (ifs : List Expr) : TT := fun σ H Q => match ifs with
  | [] => Q true H
  | c' :: _ => ∀ (s0 : Shared) (H0 : Hp) (c : Addr) (cl : List (Str × Addr)) (fp : List Addr), XT (X.blk s0 H0 scope (compEnvC scope cl c X.env) fp) c' σ H Q
theorem put_wipe {nm : Str} {y : V} {i : Nat} (hN : N[i]? = some nm) (nd : N.Nodup) (hp : Put N σ nm y σ') : (wipe σ [i]).set i (some y) = σ' ∧ wipe σ' [i] = wipe σ [i] := by
  obtain ⟨j, hj, e⟩ := hp.ix
  have ij : i = j := nd_ix nd hN hj
  subst ij
  subst e
  exact ⟨by show (σ.set i none).set i (some y) = _; rw [List.set_set], by show (σ.set i (some y)).set i none = σ.set i none; rw [List.set_set]⟩
section
variable {nm : Str} {i : Nat} {Vs' G' : List Str}
theorem turn_ok (C : Ctx X sc N Vs Ls G k) (hN : N[i]? = some nm) (hV : okC (relS scope sc) Vs' [] G' = true) (hk : scope.kind = .function) (hif : ifs.length ≤ 1) {y : V} {L : Addr} {Nx : Hp → Prop} (h : XTurn X sc scope N Vs' G' k nm ifs elt σ y H L Nx) :
    gName i y (wipe σ [i]) H fun σ2 H2 => wipe σ2 [i] = wipe σ [i] ∧ ttC X scope ifs σ2 H2 fun b H3 => if b = true then teC X scope elt σ2 H3 (fun y H4 => ∃ acc, H4 L = some (.lst acc) ∧ acc.length < sizeLine ∧ Nx (upd H4 L (.lst (acc ++ [y])))) else Nx H3 := by
  obtain ⟨σ', hp, h⟩ := h
  obtain ⟨e1, e2⟩ := put_wipe hN C.nd hp
  show wipe ((wipe σ [i]).set i (some y)) [i] = wipe σ [i] ∧ ttC X scope ifs ((wipe σ [i]).set i (some y)) H _
  rw [e1]
  refine ⟨e2, ?_⟩
  have fin : ∀ H3, XEC X sc scope N Vs' G' k elt σ' H3 (fun z H4 => ∃ acc, H4 L = some (.lst acc) ∧ acc.length < sizeLine ∧ ∀ H5, Kp [L] H4 H5 → H5 L = some (.lst (acc ++ [z])) → Nx H5) →
      teC X scope elt σ' H3 (fun y H4 => ∃ acc, H4 L = some (.lst acc) ∧ acc.length < sizeLine ∧ Nx (upd H4 L (.lst (acc ++ [y])))) := fun H3 h s0 H0 c cl fp =>
    (h s0 H0 c cl fp (blk_ctx C hV hk)).mono fun v H4 ⟨acc, h1, h2, h3⟩ => ⟨acc, h1, h2, h3 _ (Kp.set h1 rfl) upd_same⟩
  cases ifs with
  | nil =>
    exact iteT (B := Nx H) (fin H h)
  | cons c' r =>
    intro s0 H0 c cl fp
    refine (h s0 H0 c cl fp (blk_ctx C hV hk)).mono fun b H3 q => ?_
    cases b with
    | false => exact q
    | true => exact fin H3 q
theorem pg_blk (C : Ctx X sc N Vs Ls G k) (hN : N[i]? = some nm) (hl : (relS scope sc).names.lookup nm = some .local) {s0 : Shared} {H0 : Hp} {c : Addr} {cl : List (Str × Addr)} {fp : List Addr} : PG (X.blk s0 H0 scope (compEnvC scope cl c X.env) fp) (.Name nm p1) (gName i) := by
  have e : (compEnvC scope cl c X.env).scope = relS scope sc := by rw [← C.esc]; rfl
  refine pg_name (X := X.blk s0 H0 scope (compEnvC scope cl c X.env) fp) (i := i) (by show X.N.Nodup; rw [C.hN]; exact C.nd) (by show X.N[i]? = _; rw [C.hN]; exact hN) (.inl ?_) (.inr ?_)
  · show (compEnvC scope cl c X.env).scope.names.lookup nm = _
    rw [e]; exact hl
  · show (compEnvC scope cl c X.env).scope.names.lookup nm = _
    rw [e]; exact hl
theorem pts_blk (hif : ifs.length ≤ 1) {s0 : Shared} {H0 : Hp} {c : Addr} {cl : List (Str × Addr)} {fp : List Addr} : PTs (X.blk s0 H0 scope (compEnvC scope cl c X.env) fp) ifs (ttC X scope ifs) := by
  cases ifs with
  | nil => exact pts_nil
  | cons c' r =>
    cases r with
    | nil => exact pts_one ⟨fun pins s σ H Q I h => (XT.pt).run pins s σ H Q I (h s0 H0 c cl fp)⟩
    | cons _ _ => simp at hif
theorem pe_blk {s0 : Shared} {H0 : Hp} {c : Addr} {cl : List (Str × Addr)} {fp : List Addr} : PE (X.blk s0 H0 scope (compEnvC scope cl c X.env) fp) elt (teC X scope elt) := ⟨fun pins s σ H Q I h => (XE.pe).run pins s σ H Q I (h s0 H0 c cl fp)⟩
/-- the closed facts of a comprehension: its target's name and slot, what it reads -/
structure LcOk (sc scope : Scope) (N Vs' G' : List Str) (nm : Str) (i : Nat) (ifs : List Expr) : Prop where
  hN : N[i]? = some nm
  blk : blkC N sc scope [(nm, i)] = true
  rd : okC (relS scope sc) Vs' [] G' = true
  knd : scope.kind = .function
  own : (relS scope sc).names.lookup nm = some .local
  one : ifs.length ≤ 1
theorem xlc_R1 (C : Ctx X sc N Vs Ls G k) (O : LcOk sc scope N Vs' G' nm i ifs) (hg : Mem G "range") (hm : X.mg "range" = none)
    (h : XA X [a] σ H fun vs H1 => ∃ j : Int, vs = [.int j] ∧ -(2 ^ 62) ≤ j ∧ j < 2 ^ 62 ∧ ∀ L H2, Kp [] H1 H2 → H1 L = none → H2 L = some (.lst []) → ∃ Pv : Nat → Hp → Prop, Pv 0 H2 ∧
      (∀ t H', t < j.toNat → Pv t H' → XTurn X sc scope N Vs' G' k nm ifs elt σ (.int t) H' L (Pv (t + 1))) ∧ ∀ H', Pv j.toNat H' → Q (.ref L) H')
    (hst : starEach [a] X.env = [(false, eval a X.env)] := by rfl) : XLC X elt (.Name nm p1) (.Call (.Name "range" p2) [a] [] pos) ifs scope σ H Q := by
  refine ⟨_, gName i, ttC X scope ifs, teC X scope elt, [(nm, i)], pi_range1 (C.gl hg) hm XA.pa hst, blkOk_by (by rw [C.hN, C.esc]; exact O.blk), fun _ _ _ _ _ => pg_blk C O.hN O.own, fun _ _ _ _ _ => pts_blk O.one, fun _ _ _ _ _ => pe_blk,
    fun σ H R R' m h => h.mono fun vs H1 ⟨j, e, h1, h2, q⟩ => ⟨j, e, h1, h2, m _ _ q⟩, ?_⟩
  refine h.mono fun vs H1 ⟨j, e, h1, h2, h⟩ => ⟨j, e, h1, h2, fun L hL => ?_⟩
  obtain ⟨Pv, h0, hs, hd⟩ := h L _ (Kp.new hL) hL upd_same
  refine lc_range (lo := 0) (n := j.toNat) Pv h0 (fun t H' ht p => ?_) hd
  rw [Int.zero_add]
  exact turn_ok C O.hN O.rd O.knd O.one (hs t H' ht p)
theorem xlc_L (C : Ctx X sc N Vs Ls G k) (O : LcOk sc scope N Vs' G' nm i ifs)
    (h : XE X iter σ H fun v H1 => ∃ a xs, v = .ref a ∧ SqL X.K H1 a xs ∧ ∀ L H2, Kp [] H1 H2 → H1 L = none → H2 L = some (.lst []) → ∃ Pv : Nat → Hp → Prop, Pv 0 H2 ∧ (∀ t H', t ≤ xs.length → Pv t H' → SqL X.K H' a xs) ∧
      (∀ t y H', xs[t]? = some y → Pv t H' → XTurn X sc scope N Vs' G' k nm ifs elt σ y H' L (Pv (t + 1))) ∧ ∀ H', Pv xs.length H' → Q (.ref L) H') : XLC X elt (.Name nm p1) iter ifs scope σ H Q := by
  refine ⟨_, gName i, ttC X scope ifs, teC X scope elt, [(nm, i)], pi_list XE.pe, blkOk_by (by rw [C.hN, C.esc]; exact O.blk), fun _ _ _ _ _ => pg_blk C O.hN O.own, fun _ _ _ _ _ => pts_blk O.one, fun _ _ _ _ _ => pe_blk,
    fun σ H R R' m h => h.mono fun v H1 ⟨a, e, h1, q⟩ => ⟨a, e, h1, m _ _ q⟩, ?_⟩
  refine h.mono fun v H1 ⟨a, xs, e, hx, h⟩ => ⟨a, e, ⟨xs, hx⟩, fun L hL => ?_⟩
  obtain ⟨Pv, h0, hl, hs, hd⟩ := h L _ (Kp.new hL) hL upd_same
  exact lc_list (K := X.K) (a := a) (xs := xs) Pv h0 hl (fun t y H' ht p => turn_ok C O.hN O.rd O.knd O.one (hs t y H' ht p)) hd
end

/-! ## a def and its body -/
def st0 : List Str → List V → St
  | [], _ => []
  | _ :: N, v :: vs => some v :: st0 N vs
  | _ :: N, [] => none :: st0 N []
theorem st0_nil : ∀ N : List Str, st0 N [] = List.replicate N.length none
  | [] => rfl
  | _ :: N => by show none :: st0 N [] = _; rw [st0_nil N]; rfl
theorem start_eq : ∀ (N : List Str) (vs : List V), vs.length ≤ N.length → start N vs = st0 N vs
  | [], [], _ => rfl
  | [], _ :: _, h => by simp at h
  | x :: N, [], _ => by rw [st0_nil]; rfl
  | x :: N, v :: vs, h => by
    show some v :: (vs.map some ++ List.replicate (N.length + 1 - (vs.length + 1)) none) = some v :: st0 N vs
    rw [← start_eq N vs (by simpa using h), Nat.add_sub_add_right]; rfl
/-- where a def stands -/
structure DefAt (K : PySem.W.Frag) (mg : Str → Option Value) (x qual : Str) (st : Stmt) (ps : List Str) : Prop where
  ex : ∃ f fd, Fun K x qual st f fd ∧ mg x = some (.ref f) ∧ Binds K fd ps []
end
section
variable {P : Program} {w : World} {K : PySem.W.Frag} {mg : Str → Option Value} {base : Heap}
theorem fnOk_by {x qual : Str} {st : Stmt} {f : Addr} {fd : FuncData} {N Vs ps G : List Str} {k : Nat} {sp : Sp} (F : Fun K x qual st f fd) (S : FnScope N ps (defScope st)) (ok : okC (defScope st) Vs Vs G = true) (len : ∀ vs H Q E, sp vs H Q E → vs.length = ps.length)
    (hbody : ∀ X : Cx, X.prog = P → X.w = w → X.K = K → X.mg = mg → X.base = base → Ctx X (defScope st) N Vs Vs G k → ∀ (H : Hp) (vs : List V) (Q : VK) (E : XK), sp vs H Q E → XB X (defBody st) (fun _ H' => Q .non H') ⟨Q, fun _ _ => False, fun _ _ => False⟩ (st0 N vs) H) :
    FnOk P w K mg base CX0 (k + 1) f fd ps sp := by
  refine F.ok S len (fun cdv A outer s H vs Q E hr h => ?_)
  have hl : vs.length ≤ N.length := by
    rw [len vs H Q E h]
    have := S.pre
    rw [← this, List.length_take]; exact Nat.min_le_right _ _
  rw [start_eq N vs hl]
  obtain ⟨t, h1, q⟩ := hbody ((cxOf CX0 P w K mg base N qual (defScope st) f cdv A outer s H E).nox) rfl rfl rfl rfl rfl ⟨rfl, S.nd, rfl, ok, rfl, fun _ _ => rfl, rfl, S.kind, hr⟩ H vs Q E h
  exact ⟨t, h1, q⟩
theorem DefOk.by {x qual : Str} {st : Stmt} {N Vs ps G : List Str} {k : Nat} {sp : Sp} (F : DefAt K mg x qual st ps) (S : FnScope N ps (defScope st)) (ok : okC (defScope st) Vs Vs G = true) (len : ∀ vs H Q E, sp vs H Q E → vs.length = ps.length)
    (hbody : ∀ X : Cx, X.prog = P → X.w = w → X.K = K → X.mg = mg → X.base = base → Ctx X (defScope st) N Vs Vs G k → ∀ (H : Hp) (vs : List V) (Q : VK) (E : XK), sp vs H Q E → XB X (defBody st) (fun _ H' => Q .non H') ⟨Q, fun _ _ => False, fun _ _ => False⟩ (st0 N vs) H) :
    DefOk P w K mg base x ps (k + 1) sp := by
  obtain ⟨f, fd, F, hm, hb⟩ := F.ex
  exact ⟨f, fd, fnOk_by F S ok len hbody, hm, F.kp, hb⟩
/-- a class of the module that is made by its __init__ -/
structure ClsOk (P : Program) (w : World) (K : PySem.W.Frag) (mg : Str → Option Value) (base : Heap) (x : Str) (C : Addr) (ps : List Str) (k : Nat) (sp : Sp) : Prop where
  ex : ∃ f fd, FnOk P w K mg base CX0 k f fd ps sp ∧ mg x = some (.ref C) ∧ Mk K C f ∧ Binds K fd ps []
theorem xe_make {X : Cx} {sc : Scope} {N Vs Ls G : List Str} {k k' : Nat} {x : Str} {C : Addr} {ps : List Str} {sp : Sp} {a : Expr} {es : List Expr} {p1 pos : Pos} {σ : St} {H : Hp} {Q : VK} (Cc : Ctx X sc N Vs Ls G k) (F : ClsOk X.prog X.w X.K X.mg X.base x C ps k' sp) (hg : Mem G x) (hk : k' + 1 ≤ k)
    (h : XA X (a :: es) σ H fun vs H1 => ∀ z dx, H1 z = none → H1 dx = none → dx ≠ z → sp (.ref z :: vs) (upd (upd H1 dx (.own z)) z (.ins C dx [])) (fun v H2 => v = .non ∧ Q (.ref z) H2) E0)
    (hdb : (x == ("__debug__" : Str)) = false := by decide) (he : starEach (a :: es) X.env = (false, eval a X.env) :: starEach es X.env := by rfl) (hpl : (backTo pos (starEach es X.env)).any (·.1) = false := by rfl) : XE X (.Call (.Name x p1) (a :: es) [] pos) σ H Q := by
  obtain ⟨f, fd, F, hm, M, b⟩ := F.ex
  refine ⟨_, pe_make M F (Cc.room.mono hk) (Cc.gl hg) hm b .nil pass0 XA.pa hdb he hpl, ?_⟩
  refine XA.mono h fun vs H1 q z dx h1 h2 h3 => ?_
  rw [List.append_nil]; exact q z dx h1 h2 h3
/-- an instance: its own dict besides -/
theorem Kp.made {H : Hp} {z dx C : Addr} (h1 : H z = none) (h2 : H dx = none) (h3 : dx ≠ z) : Kp [] H (upd (upd H dx (.own z)) z (.ins C dx [])) :=
  (Kp.new h2).tr0 (Kp.new (by rw [upd_ne (Ne.symm h3)]; exact h1))
/-- o.f = v -/
theorem xs_fld {X : Cx} {o value : Expr} {f : Str} {p1 pos : Pos} {σ : St} {H : Hp} {nx : St → Hp → Prop} {D : B3} (h : XE X value σ H fun y H1 => XE X o σ H1 fun z H2 => ∃ a C dx fs, z = .ref a ∧ H2 a = some (.ins C dx fs) ∧ Cls X.K C ∧ NoAttr X.K C f ∧ fs.length < 1000 ∧ ∀ H', Kp [a] H2 H' → H' a = some (.ins C dx (putF f y fs)) → nx σ H')
    (hs : swapsWith value (some (.Attribute o f p1)) pos.line X.env = pure false := by rfl) : XS X (.Assign [.Attribute o f p1] value pos) nx D σ H := by
  refine ⟨_, ps_fld XE.pe XE.pe hs, ?_⟩
  refine XE.mono h fun y H1 h => XE.mono h fun z H2 ⟨a, C, dx, fs, e, ha, c, n, l, q⟩ => ⟨a, C, dx, fs, e, ha, c, n, l, ?_⟩
  exact q _ (Kp.set ha rfl) upd_same

end

/-! ## data of any depth -/
theorem canLay_ints : ∀ ns : List Int, PyData.canLayAll0 (ns.map PyData.int) = true
  | [] => by simp [PyData.canLayAll0]
  | n :: ns => by simp [PyData.canLayAll0, PyData.canLay0, canLay_ints ns]
theorem depth_ints : ∀ ns : List Int, PyData.depthAll (ns.map PyData.int) = 0
  | [] => by simp [PyData.depthAll]
  | n :: ns => by simp [PyData.depthAll, PyData.depth, depth_ints ns]
theorem shT (ns : List Int) : SeqAt.shaped (.tuple (ns.map PyData.int)) = true := by simp [SeqAt.shaped, PyData.canLay0, PyData.depth, canLay_ints, depth_ints]
theorem shL (ns : List Int) : SeqAt.shaped (.list (ns.map PyData.int)) = true := by simp [SeqAt.shaped, PyData.canLay0, PyData.depth, canLay_ints, depth_ints]
theorem dpAll_ints {K : PySem.W.Frag} {H : Hp} : ∀ ns : List Int, DpAll K H (ns.map V.int) (ns.map PyData.int)
  | [] => .nil
  | n :: ns => .cons (.int n) (dpAll_ints ns)
theorem dp_T {K : PySem.W.Frag} {H : Hp} {p : Addr} {ns : List Int} (h : SqT K H p (ns.map V.int)) : Dp K H (.ref p) (.tuple (ns.map PyData.int)) := .tup h (dpAll_ints ns)
theorem dp_L {K : PySem.W.Frag} {H : Hp} {p : Addr} {ns : List Int} (h : SqL K H p (ns.map V.int)) : Dp K H (.ref p) (.list (ns.map PyData.int)) := .lst h (dpAll_ints ns)
mutual
theorem dp_kp {K : PySem.W.Frag} {H H' : Hp} (k : Kp [] H H') : ∀ {d : PyData} {v : V}, Dp K H v d → Dp K H' v d
  | _, _, .non => .non
  | _, _, .bl b => .bl b
  | _, _, .int i => .int i
  | _, _, .str x => .str x
  | _, _, .lst h a => .lst (k.lst0 h) (dpAll_kp k a)
  | _, _, .tup h a => .tup (k.tup h) (dpAll_kp k a)
theorem dpAll_kp {K : PySem.W.Frag} {H H' : Hp} (k : Kp [] H H') : ∀ {ds : List PyData} {vs : List V}, DpAll K H vs ds → DpAll K H' vs ds
  | _, _, .nil => .nil
  | _, _, .cons h a => .cons (dp_kp k h) (dpAll_kp k a)
end
theorem eqv_T (ns ms : List Int) : PyData.eqv (.tuple (ns.map PyData.int)) (.tuple (ms.map PyData.int)) = decide (ns = ms) := by rw [PyData.eqv, PySem.W.ked_eqvAll]
theorem eqv_L (ns ms : List Int) : PyData.eqv (.list (ns.map PyData.int)) (.list (ms.map PyData.int)) = decide (ns = ms) := by rw [PyData.eqv, PySem.W.ked_eqvAll]
section
variable {X : Cx} {σ : St} {H : Hp} {Q : VK} {N Vs Ls G : List Str} {k : Nat} {sc : Scope} {v u : V} {d e : PyData} {p q : Addr} {ns ms : List Int}
theorem vo_eqD (C : Ctx X sc N Vs Ls G k) (hd : Dp X.K H v d) (he : Dp X.K H u e) (sd : SeqAt.shaped d = true) (se : SeqAt.shaped e = true) (h : Q (.bl (PyData.eqv d e)) H) : VO X (compareOp .Eq) v u H Q := ⟨_, op_eqD C.room.units, d, e, hd, he, sd, se, h⟩
theorem vo_neD (C : Ctx X sc N Vs Ls G k) (hd : Dp X.K H v d) (he : Dp X.K H u e) (sd : SeqAt.shaped d = true) (se : SeqAt.shaped e = true) (h : Q (.bl (!PyData.eqv d e)) H) : VO X (compareOp .NotEq) v u H Q := ⟨_, op_neD C.room.units, d, e, hd, he, sd, se, h⟩
theorem vo_eqT (C : Ctx X sc N Vs Ls G k) (hd : SqT X.K H p (ns.map V.int)) (he : SqT X.K H q (ms.map V.int)) (h : Q (.bl (decide (ns = ms))) H) : VO X (compareOp .Eq) (.ref p) (.ref q) H Q := vo_eqD C (dp_T hd) (dp_T he) (shT _) (shT _) (by rw [eqv_T]; exact h)
theorem vo_neT (C : Ctx X sc N Vs Ls G k) (hd : SqT X.K H p (ns.map V.int)) (he : SqT X.K H q (ms.map V.int)) (h : Q (.bl (!decide (ns = ms))) H) : VO X (compareOp .NotEq) (.ref p) (.ref q) H Q := vo_neD C (dp_T hd) (dp_T he) (shT _) (shT _) (by rw [eqv_T]; exact h)
theorem vo_eqI (C : Ctx X sc N Vs Ls G k) (hd : SqL X.K H p (ns.map V.int)) (he : SqL X.K H q (ms.map V.int)) (h : Q (.bl (decide (ns = ms))) H) : VO X (compareOp .Eq) (.ref p) (.ref q) H Q := vo_eqD C (dp_L hd) (dp_L he) (shL _) (shL _) (by rw [eqv_L]; exact h)
theorem vo_neI (C : Ctx X sc N Vs Ls G k) (hd : SqL X.K H p (ns.map V.int)) (he : SqL X.K H q (ms.map V.int)) (h : Q (.bl (!decide (ns = ms))) H) : VO X (compareOp .NotEq) (.ref p) (.ref q) H Q := vo_neD C (dp_L hd) (dp_L he) (shL _) (shL _) (by rw [eqv_L]; exact h)
end

/-! ## small things of tests -/
theorem ite_d {p A B : Prop} [Decidable p] (h1 : p → A) (h2 : ¬ p → B) : if decide p = true then A else B := by
  by_cases h : p
  · rw [if_pos (decide_eq_true h)]; exact h1 h
  · rw [if_neg (by simp [h])]; exact h2 h
theorem ite_nd {p A B : Prop} [Decidable p] (h1 : ¬ p → A) (h2 : p → B) : if (!decide p) = true then A else B := by
  by_cases h : p
  · rw [if_neg (by simp [h])]; exact h2 h
  · rw [if_pos (by simp [h])]; exact h1 h
theorem ite_b {c : Bool} {A B : Prop} (h1 : c = true → A) (h2 : c = false → B) : if c = true then A else B := by
  cases c with
  | true => exact iteT (h1 rfl)
  | false => exact iteF (h2 rfl)
theorem ite_NT {A B : Prop} (h : B) : if (!true) = true then A else B := h
theorem ite_NF {A B : Prop} (h : A) : if (!false) = true then A else B := h
theorem ex_bl {c : Bool} {R : Bool → Prop} (h : R c) : ∃ k, V.bl c = V.bl k ∧ R k := ⟨c, rfl, h⟩
theorem tr_bl {K : PySem.W.Frag} {c : Bool} {H : Hp} {R : Bool → Prop} (h : R c) : ∃ k, TruV K (.bl c) H k ∧ R k := ⟨c, rfl, h⟩
theorem at0 {α : Type} {a : α} {l : List α} : atI (a :: l) 0 = some a := atI_nat (j := 0) rfl
theorem at1 {α : Type} {a b : α} {l : List α} : atI (a :: b :: l) 1 = some b := atI_nat (j := 1) rfl
theorem at2 {α : Type} {a b c : α} {l : List α} : atI (a :: b :: c :: l) 2 = some c := atI_nat (j := 2) rfl
theorem at3 {α : Type} {a b c d : α} {l : List α} : atI (a :: b :: c :: d :: l) 3 = some d := atI_nat (j := 3) rfl
theorem at4 {α : Type} {a b c d e : α} {l : List α} : atI (a :: b :: c :: d :: e :: l) 4 = some e := atI_nat (j := 4) rfl
theorem at5 {α : Type} {a b c d e f : α} {l : List α} : atI (a :: b :: c :: d :: e :: f :: l) 5 = some f := atI_nat (j := 5) rfl
theorem ix0 {n : Nat} : ixN (n + 1) 0 = some 0 := by
  unfold ixN; rw [if_pos (by decide), if_pos (by omega)]; rfl
theorem ix1 {n : Nat} : ixN (n + 2) 1 = some 1 := by
  unfold ixN; rw [if_pos (by decide), if_pos (by omega)]; rfl
theorem sz_ {n : Nat} (h : n ≤ 100000) : n ≤ sizeLine := Nat.le_trans h (by decide)
theorem szl {n : Nat} (h : n < 100000) : n < sizeLine := Nat.lt_of_lt_of_le h (by decide)
theorem cmulL {i j : Int} (h : -(2 ^ 64) < i ∧ i < 2 ^ 64) : CMul i j := .inl h
theorem cmulR {i j : Int} (h : -(2 ^ 64) < j ∧ j < 2 ^ 64) : CMul i j := .inr h
theorem map_at {ns : List Int} {i : Nat} {y : V} (h : (ns.map V.int)[i]? = some y) : ∃ n, ns[i]? = some n ∧ y = .int n := by
  rw [List.getElem?_map] at h
  cases e : ns[i]? with
  | none => rw [e] at h; cases h
  | some n => rw [e] at h; exact ⟨n, rfl, (Option.some.inj h).symm⟩
theorem at_map {ns : List Int} {i : Int} {n : Int} (h0 : 0 ≤ i) (h : ns[i.toNat]? = some n) : atI (ns.map V.int) i = some (.int n) := by
  have e : i = (i.toNat : Int) := by omega
  rw [e]; exact atI_nat (by rw [List.getElem?_map, h]; rfl)

end Z
/-! ## the walk: "m" a name is there, "a" its value, "u" its store, "kp" what still stands, "s" one step, "w" many -/

set_option hygiene false
local macro_rules | `(tactic| wtm_at "m") => `(tactic| first | with_reducible exact Z.Mem.z | (with_reducible refine Z.Mem.s ?_; wtm_at "m") | fail)
local macro_rules | `(tactic| wtm_at "a") => `(tactic| first | with_reducible exact Z.At.z | ((with_reducible show Z.At (_ :: _) _ _ _); with_reducible exact Z.At.s (by wtm_at "a")) | fail)
local macro_rules | `(tactic| wtm_at "u") => `(tactic| first | with_reducible exact Z.Put.z | ((with_reducible show Z.Put (_ :: _) _ _ _ _); with_reducible exact Z.Put.s (by wtm_at "u")) | fail)
local macro_rules | `(tactic| wtm_at "kp") => `(tactic| first | assumption | ((with_reducible show SqT _ _ _ _); with_reducible exact Z.Kp.tup (by assumption) (by wtm_at "kp")) | ((with_reducible show SqL _ _ _ _); with_reducible exact Z.Kp.lst0 (by assumption) (by wtm_at "kp")) | ((with_reducible show _ = some _); with_reducible exact Z.Kp.at0 (by assumption) (by wtm_at "kp")) | ((with_reducible show SqL _ _ _ _); with_reducible exact Z.SqL.of' (by wtm_at "kp")) | ((with_reducible show SqT _ _ _ _); with_reducible exact Z.SqT.of' (by wtm_at "kp")) | fail)
/-! a statement or an expression, by its form; a value, by its form; facts that are there -/
local macro_rules | `(tactic| wtm_at "v") => `(tactic| first | ((with_reducible show Z.VX _ (L2.V.ref _) (L2.V.int _) _ _); with_reducible refine Z.vx_tup (by wtm_at "kp") Z.at0 ?_) | ((with_reducible show Z.VX _ (L2.V.ref _) (L2.V.int _) _ _); with_reducible refine Z.vx_tup (by wtm_at "kp") Z.at1 ?_) | ((with_reducible show Z.VX _ (L2.V.ref _) (L2.V.int _) _ _); with_reducible refine Z.vx_tup (by wtm_at "kp") Z.at2 ?_) | ((with_reducible show Z.VX _ (L2.V.ref _) (L2.V.int _) _ _); with_reducible refine Z.vx_tup (by wtm_at "kp") Z.at3 ?_) | ((with_reducible show Z.VX _ (L2.V.ref _) (L2.V.int _) _ _); with_reducible refine Z.vx_tup (by wtm_at "kp") Z.at4 ?_) | ((with_reducible show Z.VX _ (L2.V.ref _) (L2.V.int _) _ _); with_reducible refine Z.vx_tup (by wtm_at "kp") Z.at5 ?_) | ((with_reducible show Z.VX _ (L2.V.ref _) (L2.V.int _) _ _); with_reducible refine Z.vx_lst (by wtm_at "kp") Z.at0 ?_) | ((with_reducible show Z.VX _ (L2.V.ref _) (L2.V.int _) _ _); with_reducible refine Z.vx_lst (by wtm_at "kp") Z.at1 ?_) | ((with_reducible show Z.VX _ (L2.V.ref _) (L2.V.int _) _ _); with_reducible refine Z.vx_lst (by wtm_at "kp") Z.at2 ?_) | ((with_reducible show Z.VC _ (PySem.Value.builtin "len") [L2.V.ref _] _ _); with_reducible refine Z.vc_lenT (by wtm_at "kp") ?_) | ((with_reducible show Z.VC _ (PySem.Value.builtin "len") [L2.V.ref _] _ _); with_reducible refine Z.vc_lenL (by wtm_at "kp") ?_) | ((with_reducible show Z.VT _ (L2.V.ref _) _ _); with_reducible refine Z.vt_tup (by wtm_at "kp") ?_) | ((with_reducible show Z.VT _ (L2.V.ref _) _ _); with_reducible refine Z.vt_lst (by wtm_at "kp") ?_) | ((with_reducible show Z.VO _ (PySem.binaryOp PySem.Operator.FloorDiv) _ _ _ _); refine Z.vo_fdiv (by exact ⟨by decide, by decide⟩) ?_) | ((with_reducible show Z.VO _ (PySem.binaryOp PySem.Operator.Mod) _ _ _ _); refine Z.vo_mod (by decide) ?_) | ((with_reducible show _ ∧ _); refine ⟨by exact Z.sz_ (by first | decide | simp), ?_⟩) | fail)
local macro_rules | `(tactic| wtm_at "d") => `(tactic| fail)
local macro_rules | `(tactic| wtm_at "s") => `(tactic| first | ((with_reducible show Z.XE _ (PySem.Expr.Name _ _) _ _ _); refine Z.xe_var (by assumption) (by wtm_at "m") (by wtm_at "a") ?_) | with_reducible refine Z.xe_int ?_ | with_reducible refine Z.xe_bin ?_ | ((with_reducible show Z.XA _ (PySem.Expr.Starred _ _ :: _) _ _ _); refine Z.xa_star ?_) | ((with_reducible show Z.XA _ (_ :: _) _ _ _); refine Z.xa_cons ?_) | with_reducible refine Z.xa_nil ?_ | ((with_reducible show Z.XE _ (PySem.Expr.Subscript _ (PySem.Expr.Slice _ _ none _) _) _ _ _); refine Z.xe_sl ?_) | ((with_reducible show Z.XE _ (PySem.Expr.Subscript _ _ _) _ _ _); refine Z.xe_ix ?_) | with_reducible refine Z.xb_cons ?_ | ((with_reducible show Z.XS _ (PySem.Stmt.Assign [PySem.Expr.Name _ _] _ _) _ _ _ _); refine Z.xs_set (by assumption) ?_ (hx := by wtm_at "m") (hl := by wtm_at "m")) | with_reducible refine Z.xs_ret ?_ | ((with_reducible show Z.XS _ (PySem.Stmt.Expr _ _) _ _ _ _); refine Z.xs_expr ?_) | with_reducible refine Z.xs_if ?_ | ((with_reducible show Z.XE _ (PySem.Expr.Compare _ [_] [_] _) _ _ _); refine Z.xe_cmp ?_) | ((with_reducible show Z.XT _ (PySem.Expr.Compare _ [_] [_] _) _ _ _); refine Z.xt_cmp ?_) | with_reducible refine Z.xt_bool ?_ | with_reducible refine Z.xw_and ?_ | with_reducible refine Z.xw_and1 ?_ | with_reducible refine Z.xw_or ?_ | with_reducible refine Z.xw_or1 ?_ | with_reducible refine Z.xt_not ?_ | with_reducible refine Z.xe_bl ?_ | with_reducible refine Z.xe_non ?_ | with_reducible refine Z.xe_not ?_ | with_reducible refine Z.xe_un ?_ | with_reducible refine Z.xe_and ?_ | with_reducible refine Z.xe_or ?_ | with_reducible refine Z.xe_one ?_ | with_reducible refine Z.xe_tup ?_ | with_reducible refine Z.xe_lst ?_ | with_reducible refine Z.xe_ifExp ?_ | with_reducible refine Z.xb_nil ?_ | ((with_reducible show Z.XG _ (PySem.Expr.Name _ _) _ _ _ _); refine Z.xg_name (by assumption) (by wtm_at "m") (by wtm_at "m") ?_) | with_reducible refine Z.xo_none ?_ | with_reducible refine Z.xo_some ?_ | with_reducible refine Z.xs_pass ?_ | with_reducible refine Z.xs_break ?_ | with_reducible refine Z.xs_cont ?_ | with_reducible refine Z.xs_retN ?_ | ((with_reducible show Z.XE _ (PySem.Expr.Compare _ [_, _] [_, _] _) _ _ _); refine Z.xe_chain ?_) | ((with_reducible show Z.XT _ (PySem.Expr.Compare _ [_, _] [_, _] _) _ _ _); refine Z.xt_chain ?_) | with_reducible refine Z.vo_add ?_ | with_reducible refine Z.vo_sub ?_ | with_reducible refine Z.vo_lt ?_ | with_reducible refine Z.vo_le ?_ | with_reducible refine Z.vo_gt ?_ | with_reducible refine Z.vo_ge ?_ | with_reducible refine Z.vo_eq ?_ | with_reducible refine Z.vo_ne ?_ | with_reducible refine Z.vo_eqB ?_ | with_reducible refine Z.vo_neB ?_ | with_reducible refine Z.vo_isB ?_ | with_reducible refine Z.vo_notB ?_ | with_reducible refine Z.vu_neg ?_ | with_reducible refine Z.vt_bl ?_ | with_reducible refine Z.vt_int ?_ | with_reducible refine Z.vc_intB ?_ | with_reducible refine Z.vc_int ?_ | with_reducible refine Z.vc_abs ?_ | with_reducible refine Z.ex_bl ?_ | ((with_reducible show Z.XT _ (PySem.Expr.Call _ _ _ _) _ _ _); refine Z.xt_val ?_) | ((with_reducible show Z.XT _ (PySem.Expr.Name _ _) _ _ _); refine Z.xt_val ?_) | ((with_reducible show Z.XT _ (PySem.Expr.Subscript _ _ _) _ _ _); refine Z.xt_val ?_) | ((with_reducible show Z.XT _ (PySem.Expr.Attribute _ _ _) _ _ _); refine Z.xt_val ?_) | ((with_reducible show Z.XT _ (PySem.Expr.Constant _ _ _) _ _ _); refine Z.xt_val ?_) | ((with_reducible show ∃ i, L2.V.int _ = L2.V.int i ∧ _); refine ⟨_, rfl, ?_⟩) | with_reducible refine L2.iteT ?_ | with_reducible refine L2.iteF ?_ | with_reducible refine Z.ite_NT ?_ | with_reducible refine Z.ite_NF ?_ | ((with_reducible show Z.XE _ (PySem.Expr.Call (PySem.Expr.Attribute _ "append" _) [_] [] _) _ _ _); refine Z.xe_append ?_) | ((with_reducible show ∃ l xs, L2.V.ref _ = L2.V.ref l ∧ _ ∧ Z.XE _ _ _ _ _); refine ⟨_, _, rfl, by wtm_at "kp", ?_⟩) | ((with_reducible show ∃ _, Z.Put _ _ _ _ _ ∧ _); refine ⟨_, by wtm_at "u", ?_⟩) | wtm_at "v" | wtm_at "d" | fail)
local macro_rules | `(tactic| wtm_at "w") => `(tactic| repeat wtm_at "s")

namespace Law
open PySem L2 Z
def topS (i : Nat) : Stmt := PySem.Challenge.pw_sealround_k01_digests.main.body.getD i (.Pass ⟨0, 0, 0, 0⟩)
abbrev s_digest : Stmt := topS 3
theorem sc_digest : FnScope ["mixing", "row", "state", "number"] ["mixing", "row"] (defScope s_digest) := ⟨rfl, rfl, rfl, by decide +kernel, rfl, by decide +kernel, by decide +kernel⟩
theorem oc_digest : okC (defScope s_digest) ["mixing", "row", "state", "number"] ["mixing", "row", "state", "number"] ["_mixed", "len"] = true := by decide +kernel
abbrev s__mixed : Stmt := topS 4
theorem sc__mixed : FnScope ["mixing", "state", "number"] ["mixing", "state", "number"] (defScope s__mixed) := ⟨rfl, rfl, rfl, by decide +kernel, rfl, by decide +kernel, by decide +kernel⟩
theorem oc__mixed : okC (defScope s__mixed) ["mixing", "state", "number"] ["mixing", "state", "number"] ["PRIME"] = true := by decide +kernel
abbrev s__law_cell : Stmt := topS 6
theorem sc__law_cell : FnScope ["script", "k"] ["script", "k"] (defScope s__law_cell) := ⟨rfl, rfl, rfl, by decide +kernel, rfl, by decide +kernel, by decide +kernel⟩
theorem oc__law_cell : okC (defScope s__law_cell) ["script", "k"] ["script", "k"] ["len"] = true := by decide +kernel
abbrev s__law_row : Stmt := topS 7
theorem sc__law_row : FnScope ["script", "first", "last", "row", "k", "cell", "turn"] ["script", "first", "last"] (defScope s__law_row) := ⟨rfl, rfl, rfl, by decide +kernel, rfl, by decide +kernel, by decide +kernel⟩
theorem oc__law_row : okC (defScope s__law_row) ["script", "first", "last", "row", "k", "cell", "turn"] ["script", "first", "last", "row", "k", "cell", "turn"] ["range", "_law_cell", "abs", "int"] = true := by decide +kernel
abbrev s__law_draw : Stmt := topS 8
theorem sc__law_draw : FnScope ["box", "many", "at"] ["box", "many"] (defScope s__law_draw) := ⟨rfl, rfl, rfl, by decide +kernel, rfl, by decide +kernel, by decide +kernel⟩
theorem oc__law_draw : okC (defScope s__law_draw) ["box", "many", "at"] ["box", "many", "at"] ["len", "int"] = true := by decide +kernel
abbrev s__law_is_integer : Stmt := topS 9
theorem sc__law_is_integer : FnScope ["told"] ["told"] (defScope s__law_is_integer) := ⟨rfl, rfl, rfl, by decide +kernel, rfl, by decide +kernel, by decide +kernel⟩
theorem oc__law_is_integer : okC (defScope s__law_is_integer) ["told"] ["told"] ["isinstance", "int", "bool"] = true := by decide +kernel
abbrev s__law_digest : Stmt := topS 10
theorem sc__law_digest : FnScope ["m", "row", "state", "n"] ["m", "row"] (defScope s__law_digest) := ⟨rfl, rfl, rfl, by decide +kernel, rfl, by decide +kernel, by decide +kernel⟩
theorem oc__law_digest : okC (defScope s__law_digest) ["m", "row", "state", "n"] ["m", "row", "state", "n"] ["len", "list", "int"] = true := by decide +kernel
abbrev s__law_number : Stmt := topS 11
theorem sc__law_number : FnScope ["box", "kind", "n", "turn"] ["box"] (defScope s__law_number) := ⟨rfl, rfl, rfl, by decide +kernel, rfl, by decide +kernel, by decide +kernel⟩
theorem oc__law_number : okC (defScope s__law_number) ["box", "kind", "n", "turn"] ["box", "kind", "n", "turn"] ["_law_draw", "range"] = true := by decide +kernel
abbrev s__law_mixing : Stmt := topS 12
theorem sc__law_mixing : FnScope ["box", "bound", "factor"] ["box"] (defScope s__law_mixing) := ⟨rfl, rfl, rfl, by decide +kernel, rfl, by decide +kernel, by decide +kernel⟩
theorem oc__law_mixing : okC (defScope s__law_mixing) ["box", "bound", "factor"] ["box", "bound", "factor"] ["_law_draw", "int", "_law_number"] = true := by decide +kernel
abbrev s_law : Stmt := topS 13
theorem sc_law : FnScope ["script", "box", "m", "made", "row", "turn", "other", "told"] ["script"] (defScope s_law) := ⟨rfl, rfl, rfl, by decide +kernel, rfl, by decide +kernel, by decide +kernel⟩
theorem oc_law : okC (defScope s_law) ["script", "box", "m", "made", "row", "turn", "other", "told"] ["script", "box", "m", "made", "row", "turn", "other", "told"] ["_law_row", "_law_mixing", "Mixing", "range", "abs", "_law_cell", "digest", "_law_is_integer", "_law_digest", "_law_number"] = true := by decide +kernel
abbrev s_Mixing___init__ : Stmt := inClass (topS 2) 0
theorem sc_Mixing___init__ : FnScope ["self", "bound", "factor"] ["self", "bound", "factor"] (defScope s_Mixing___init__) := ⟨rfl, rfl, rfl, by decide +kernel, rfl, by decide +kernel, by decide +kernel⟩
theorem oc_Mixing___init__ : okC (defScope s_Mixing___init__) ["self", "bound", "factor"] ["self", "bound", "factor"] [] = true := by decide +kernel
/-! what the top leaves -/
structure Txt (P : Program) (w : World) (K : PySem.W.Frag) (mg : Str → Option Value) (base : Heap) where
  b_abs : mg "abs" = none
  b_bool : mg "bool" = none
  b_int : mg "int" = none
  b_isinstance : mg "isinstance" = none
  b_len : mg "len" = none
  b_list : mg "list" = none
  b_range : mg "range" = none
  c_PRIME : ∃ t, mg "PRIME" = some (.int 2305843009213693951 t)
  d_digest : DefAt K mg "digest" "digest" s_digest ["mixing", "row"]
  d__mixed : DefAt K mg "_mixed" "_mixed" s__mixed ["mixing", "state", "number"]
  d__law_cell : DefAt K mg "_law_cell" "_law_cell" s__law_cell ["script", "k"]
  d__law_row : DefAt K mg "_law_row" "_law_row" s__law_row ["script", "first", "last"]
  d__law_draw : DefAt K mg "_law_draw" "_law_draw" s__law_draw ["box", "many"]
  d__law_is_integer : DefAt K mg "_law_is_integer" "_law_is_integer" s__law_is_integer ["told"]
  d__law_digest : DefAt K mg "_law_digest" "_law_digest" s__law_digest ["m", "row"]
  d__law_number : DefAt K mg "_law_number" "_law_number" s__law_number ["box"]
  d__law_mixing : DefAt K mg "_law_mixing" "_law_mixing" s__law_mixing ["box"]
  C_Mixing : Addr
  cl_Mixing : Cls K C_Mixing
  mg_Mixing : mg "Mixing" = some (.ref C_Mixing)
  na_Mixing_bound : NoAttr K C_Mixing "bound"
  na_Mixing_factor : NoAttr K C_Mixing "factor"
  mk_Mixing : ∃ f fd, Mk K C_Mixing f ∧ Fun K "__init__" "Mixing.__init__" s_Mixing___init__ f fd ∧ Binds K fd ["self", "bound", "factor"] []
variable {P : Program} {w : World} {mg : Str → Option Value} {base : Heap} {K : PySem.W.Frag}
local macro_rules | `(tactic| wtm_at "d") => `(tactic| first | ((with_reducible show Z.XE _ (PySem.Expr.Call (PySem.Expr.Name "abs" _) (_ :: _) [] _) _ _ _); refine Z.xe_callB (id := "abs") (by assumption) (by wtm_at "m") T.b_abs (by decide +kernel) ?_) | ((with_reducible show Z.XE _ (PySem.Expr.Call (PySem.Expr.Name "bool" _) (_ :: _) [] _) _ _ _); refine Z.xe_callTy (id := "bool") (by assumption) (by wtm_at "m") T.b_bool (by decide +kernel) ?_) | ((with_reducible show Z.XE _ (PySem.Expr.Name "bool" _) _ _ _); refine Z.xe_ty (id := "bool") (by assumption) (by wtm_at "m") T.b_bool (by decide +kernel) ?_) | ((with_reducible show Z.XE _ (PySem.Expr.Call (PySem.Expr.Name "int" _) (_ :: _) [] _) _ _ _); refine Z.xe_callTy (id := "int") (by assumption) (by wtm_at "m") T.b_int (by decide +kernel) ?_) | ((with_reducible show Z.XE _ (PySem.Expr.Name "int" _) _ _ _); refine Z.xe_ty (id := "int") (by assumption) (by wtm_at "m") T.b_int (by decide +kernel) ?_) | ((with_reducible show Z.XE _ (PySem.Expr.Call (PySem.Expr.Name "isinstance" _) (_ :: _) [] _) _ _ _); refine Z.xe_callB (id := "isinstance") (by assumption) (by wtm_at "m") T.b_isinstance (by decide +kernel) ?_) | ((with_reducible show Z.XE _ (PySem.Expr.Call (PySem.Expr.Name "len" _) (_ :: _) [] _) _ _ _); refine Z.xe_callB (id := "len") (by assumption) (by wtm_at "m") T.b_len (by decide +kernel) ?_) | ((with_reducible show Z.XE _ (PySem.Expr.Call (PySem.Expr.Name "list" _) (_ :: _) [] _) _ _ _); refine Z.xe_callTy (id := "list") (by assumption) (by wtm_at "m") T.b_list (by decide +kernel) ?_) | ((with_reducible show Z.XE _ (PySem.Expr.Name "list" _) _ _ _); refine Z.xe_ty (id := "list") (by assumption) (by wtm_at "m") T.b_list (by decide +kernel) ?_) | ((with_reducible show Z.XE _ (PySem.Expr.Name "PRIME" _) _ _ _); refine Z.xe_glob (v := L2.V.int 2305843009213693951) (by assumption) (by wtm_at "m") T.c_PRIME.choose_spec ⟨_, rfl⟩ ?_) | ((with_reducible show Z.XE _ (PySem.Expr.Call (PySem.Expr.Name "digest" _) (_ :: _) [] _) _ _ _); refine Z.xe_call (by assumption) (Law.ok_digest T) (by wtm_at "m") (by decide) ?_) | ((with_reducible show Z.XE _ (PySem.Expr.Call (PySem.Expr.Name "_mixed" _) (_ :: _) [] _) _ _ _); refine Z.xe_call (by assumption) (Law.ok__mixed T) (by wtm_at "m") (by decide) ?_) | ((with_reducible show Z.XE _ (PySem.Expr.Call (PySem.Expr.Name "_law_cell" _) (_ :: _) [] _) _ _ _); refine Z.xe_call (by assumption) (Law.ok__law_cell T) (by wtm_at "m") (by decide) ?_) | ((with_reducible show Z.XE _ (PySem.Expr.Call (PySem.Expr.Name "_law_row" _) (_ :: _) [] _) _ _ _); refine Z.xe_call (by assumption) (Law.ok__law_row T) (by wtm_at "m") (by decide) ?_) | ((with_reducible show Z.XE _ (PySem.Expr.Call (PySem.Expr.Name "_law_draw" _) (_ :: _) [] _) _ _ _); refine Z.xe_call (by assumption) (Law.ok__law_draw T) (by wtm_at "m") (by decide) ?_) | ((with_reducible show Z.XE _ (PySem.Expr.Call (PySem.Expr.Name "_law_is_integer" _) (_ :: _) [] _) _ _ _); refine Z.xe_call (by assumption) (Law.ok__law_is_integer T) (by wtm_at "m") (by decide) ?_) | ((with_reducible show Z.XE _ (PySem.Expr.Call (PySem.Expr.Name "_law_digest" _) (_ :: _) [] _) _ _ _); refine Z.xe_call (by assumption) (Law.ok__law_digest T) (by wtm_at "m") (by decide) ?_) | ((with_reducible show Z.XE _ (PySem.Expr.Call (PySem.Expr.Name "_law_number" _) (_ :: _) [] _) _ _ _); refine Z.xe_call (by assumption) (Law.ok__law_number T) (by wtm_at "m") (by decide) ?_) | ((with_reducible show Z.XE _ (PySem.Expr.Call (PySem.Expr.Name "_law_mixing" _) (_ :: _) [] _) _ _ _); refine Z.xe_call (by assumption) (Law.ok__law_mixing T) (by wtm_at "m") (by decide) ?_) | ((with_reducible show Z.XE _ (PySem.Expr.Call (PySem.Expr.Name "Mixing" _) (_ :: _) [] _) _ _ _); refine Z.xe_make (by assumption) (Law.ok_Mixing T) (by wtm_at "m") (by decide) ?_) | fail)
local macro_rules | `(tactic| wtm_at "go") => `(tactic| (subst e1; subst e2; subst e3; subst e4; subst e5; simp only [st0]; refine Z.xb_cons ?_))
/-! box -/
/-- the drawing box at b: a list of the drawn row, at r, and the place -/
def Box (H : Hp) (b r : Addr) : Prop := ∃ (i : Int) (ns : List Int), H b = some (.lst [.ref r, .int i]) ∧ 0 ≤ i ∧ H r = some (.lst (ns.map V.int))
theorem noInts {r : V} {i : V} {x : Addr} (hr : r = .ref x) : ∀ ns : List Int, HO.lst [r, i] ≠ .lst (ns.map V.int) := by
  intro ns e
  have e2 : [r, i] = ns.map V.int := HO.lst.inj e
  cases ns with
  | nil => cases e2
  | cons n ns => rw [List.map_cons] at e2; rw [hr] at e2; exact nomatch (List.cons.inj e2).1
theorem Box.br {H : Hp} {b r : Addr} (h : Box H b r) : r ≠ b := by
  obtain ⟨i, ns, h1, h2, h3⟩ := h
  intro e
  rw [e, h1] at h3
  exact noInts rfl ns (Option.some.inj h3)
theorem Box.nl {H : Hp} {b r l : Addr} (h : Box H b r) (n : H l = none) : b ≠ l ∧ r ≠ l := by
  obtain ⟨i, ns, h1, h2, h3⟩ := h
  exact ⟨ne_of_none h1 n, ne_of_none h3 n⟩
theorem Box.kp {H H' : Hp} {b r : Addr} (h : Box H b r) (k : Kp [] H H') : Box H' b r := by
  obtain ⟨i, ns, h1, h2, h3⟩ := h
  exact ⟨i, ns, k.at0 h1, h2, k.at0 h3⟩
theorem Box.kp1 {H H' : Hp} {b r l : Addr} (h : Box H b r) (k : Kp [l] H H') (n : b ≠ l ∧ r ≠ l) : Box H' b r := by
  obtain ⟨i, ns, h1, h2, h3⟩ := h
  exact ⟨i, ns, k.at (by simpa using n.1) h1, h2, k.at (by simpa using n.2) h3⟩
/-- a list of ints is not what is changed, if that is no list of ints -/
theorem ints_kp {K : PySem.W.Frag} {H H' : Hp} {b r : Addr} {u : HO} {ns : List Int} (h : SqL K H r (ns.map V.int)) (hb : H b = some u) (hu : ∀ ns : List Int, u ≠ .lst (ns.map V.int)) (k : Kp [b] H H') : SqL K H' r (ns.map V.int) := by
  rcases h with (h | ⟨o, h⟩) | h
  · refine .inl (.inl (k.at (fun m => ?_) h))
    have e : r = b := by simpa using m
    subst e
    rw [hb] at h
    exact hu ns (Option.some.inj h)
  · exact .inl (.inr ⟨o, k.z _ _ _ h⟩)
  · exact .inr h
theorem Box.ints {K : PySem.W.Frag} {H H' : Hp} {b r s : Addr} {ns : List Int} (h : Box H b r) (k : Kp [b] H H') (hs : SqL K H s (ns.map V.int)) : SqL K H' s (ns.map V.int) := by
  obtain ⟨i, ms, h1, h2, h3⟩ := h
  exact ints_kp hs h1 (noInts rfl) k
/-- what is no list is not the box -/
theorem Box.other {H H' : Hp} {b r p : Addr} {o : HO} (h : Box H b r) (k : Kp [b] H H') (ho : ∀ xs, o ≠ .lst xs) (hp : H p = some o) : H' p = some o := by
  obtain ⟨i, ms, h1, h2, h3⟩ := h
  refine k.at1 (fun e => ?_) hp
  rw [e, h1] at hp
  exact ho _ (Option.some.inj hp).symm
/-! _law_cell -/
def sp_cell (K : PySem.W.Frag) : Sp := fun vs H Q _ => ∃ (a : Addr) (ns : List Int) (k : Int), vs = [.ref a, .int k] ∧ SqL K H a (ns.map V.int) ∧ 0 ≤ k ∧ ∀ v : Int, Q (.int v) H
theorem ok__law_cell (T : Txt P w K mg base) : DefOk P w K mg base "_law_cell" ["script", "k"] 1 (sp_cell K) := by
  refine DefOk.by T.d__law_cell sc__law_cell oc__law_cell (fun vs H Q E h => ?_) (fun X e1 e2 e3 e4 e5 C H vs Q E h => ?_)
  · obtain ⟨a, ns, k, rfl, _⟩ := h; rfl
  · obtain ⟨a, ns, k, rfl, hS, h0, q⟩ := h
    wtm_at "go"
    wtm_at "w"
    refine ite_d (fun h => ?_) (fun h => ?_)
    · rw [List.length_map] at h
      wtm_at "w"
      have hk : k.toNat < ns.length := by omega
      exact vx_lst hS (at_map h0 (List.getElem?_eq_getElem hk)) (q _)
    · wtm_at "w"
      exact q _
/-! _law_row -/
def sp_row (K : PySem.W.Frag) : Sp := fun vs H Q _ => ∃ (a : Addr) (ns : List Int) (f l : Int), vs = [.ref a, .int f, .int l] ∧ SqL K H a (ns.map V.int) ∧ 0 ≤ f ∧ f ≤ 100 ∧ 0 ≤ l ∧ l ≤ 100 ∧
  ∀ p H' (rs : List Int), Kp [] H H' → H p = none → H' p = some (.lst (rs.map V.int)) → (∀ v ∈ rs, 0 ≤ v ∧ v < 840) → Q (.ref p) H'
/-- the row so far -/
def RowI (H H' : Hp) (r : Addr) (n : Nat) : Prop := H r = none ∧ Kp [] H H' ∧ ∃ rs : List Int, H' r = some (.lst (rs.map V.int)) ∧ rs.length ≤ n ∧ ∀ v ∈ rs, 0 ≤ v ∧ v < 840
theorem RowI.push {H H' H2 : Hp} {r : Addr} {n : Nat} {rs : List Int} {v : Int} (h : H r = none) (k1 : Kp [] H H') (e : H' r = some (.lst (rs.map V.int))) (hl : rs.length ≤ n) (hv : ∀ v ∈ rs, 0 ≤ v ∧ v < 840) (k2 : Kp [r] H' H2) (e2 : H2 r = some (.lst (rs.map V.int ++ [.int v]))) (h0 : 0 ≤ v ∧ v < 840) : RowI H H2 r (n + 1) := by
  refine ⟨h, k1.tr1 k2 (.inr h), rs ++ [v], ?_, ?_, ?_⟩
  · rw [e2, List.map_append]; rfl
  · rw [List.length_append]; simpa using hl
  · intro u hu
    rcases List.mem_append.mp hu with m | m
    · exact hv u m
    · rw [List.mem_singleton.mp m]; exact h0
theorem ok__law_row (T : Txt P w K mg base) : DefOk P w K mg base "_law_row" ["script", "first", "last"] 2 (sp_row K) := by
  refine DefOk.by T.d__law_row sc__law_row oc__law_row (fun vs H Q E h => ?_) (fun X e1 e2 e3 e4 e5 C H vs Q E h => ?_)
  · obtain ⟨a, ns, f, l, rfl, _⟩ := h; rfl
  · obtain ⟨a, ns, f, l, rfl, hS, f0, f1, l0, l1, q⟩ := h
    wtm_at "go"
    wtm_at "w"
    intro r H1 k1 nr hr
    wtm_at "w"
    refine xs_forR2 (by assumption) (by wtm_at "m") T.b_range ?_
    wtm_at "w"
    refine ⟨f, l, rfl, by omega, fun i σ H' => ∃ vk vc vt, σ = [some (.ref a), some (.int f), some (.int l), some (.ref r), vk, vc, vt] ∧ RowI H H' r (60 * i), ⟨none, none, none, rfl, nr, k1, [], hr, Nat.le_refl _, by simp⟩, ?_, ?_⟩
    · rintro i σ' H2 hi ⟨vk, vc, vt, rfl, n2, k2, rs, e2, len2, hv2⟩
      have hS2 : SqL X.K H2 a (ns.map V.int) := k2.lst0 hS
      wtm_at "w"
      refine ⟨a, ns, f + i, rfl, hS2, by omega, fun c => ?_⟩
      wtm_at "w"
      refine vo_mul (cmulL ⟨by decide, by decide⟩) ?_
      wtm_at "w"
      generalize hc : ((if 2 * c < 0 then -(2 * c) else 2 * c) + if decide (c < 0) = true then 1 else 0 : Int) = c'
      refine vo_pow ⟨by decide, by decide, by decide⟩ ?_
      wtm_at "w"
      refine ite_d (fun h => ?_) (fun h => ?_)
      · wtm_at "w"
        refine xs_forR1 (by assumption) (by wtm_at "m") T.b_range ?_
        wtm_at "w"
        refine ⟨60, rfl, by decide, by decide, fun t σ H' => ∃ vk, ∃ c : Int, ∃ vt, σ = [some (.ref a), some (.int f), some (.int l), some (.ref r), vk, some (.int c), vt] ∧ RowI H H' r (60 * i + t), ⟨_, _, _, rfl, n2, k2, rs, e2, by omega, hv2⟩, ?_, ?_⟩
        · rintro t σ' H3 ht ⟨vk, d, vt, rfl, n3, k3, rs3, e3, len3, hv3⟩
          have ht' : t < 60 := ht
          have hi' : i < 100 := by omega
          wtm_at "w"
          refine ite_d (fun h => ?_) (fun h => ?_)
          · wtm_at "w"
            refine ⟨e3, szl (by rw [List.length_map]; omega), fun H4 k4 e4 => ?_⟩
            wtm_at "w"
            exact ⟨_, _, _, rfl, RowI.push n3 k3 e3 len3 hv3 k4 e4 ⟨Int.emod_nonneg _ (by decide), Int.emod_lt_of_pos _ (by decide)⟩⟩
          · wtm_at "w"
            exact ⟨_, _, _, rfl, n3, k3, rs3, e3, by omega, hv3⟩
        · rintro σ' H3 ⟨vk, d, vt, rfl, n3, k3, rs3, e3, len3, hv3⟩
          wtm_at "w"
          have len3' : rs3.length ≤ 60 * i + 60 := len3
          exact ⟨_, _, _, rfl, n3, k3, rs3, e3, by omega, hv3⟩
      · wtm_at "w"
        refine xs_forR1 (by assumption) (by wtm_at "m") T.b_range ?_
        wtm_at "w"
        refine ⟨10, rfl, by decide, by decide, fun t σ H' => ∃ vt, ∃ c : Int, σ = [some (.ref a), some (.int f), some (.int l), some (.ref r), some (.int (f + i)), some (.int c), vt] ∧ RowI H H' r (60 * i + t), ⟨_, _, rfl, n2, k2, rs, e2, by omega, hv2⟩, ?_, ?_⟩
        · rintro t σ' H3 ht ⟨vt, d, rfl, n3, k3, rs3, e3, len3, hv3⟩
          have ht' : t < 10 := ht
          have hi' : i < 100 := by omega
          wtm_at "w"
          refine vo_mul (cmulR ⟨by decide, by decide⟩) ?_
          wtm_at "w"
          refine vo_mul (cmulL ⟨by decide, by decide⟩) ?_
          wtm_at "w"
          refine ⟨e3, szl (by rw [List.length_map]; omega), fun H4 k4 e4 => ?_⟩
          wtm_at "w"
          exact ⟨_, _, rfl, RowI.push n3 k3 e3 len3 hv3 k4 e4 ⟨Int.emod_nonneg _ (by decide), Int.emod_lt_of_pos _ (by decide)⟩⟩
        · rintro σ' H3 ⟨vt, d, rfl, n3, k3, rs3, e3, len3, hv3⟩
          wtm_at "w"
          have len3' : rs3.length ≤ 60 * i + 10 := len3
          exact ⟨_, _, _, rfl, n3, k3, rs3, e3, by omega, hv3⟩
    · rintro σ' H2 ⟨vk, vc, vt, rfl, n2, k2, rs, e2, len2, hv2⟩
      wtm_at "w"
      exact q _ _ rs k2 n2 e2 hv2
/-! _law_draw -/
def sp_draw : Sp := fun vs H Q _ => ∃ (b r : Addr) (m : Int), vs = [.ref b, .int m] ∧ Box H b r ∧ 0 < m ∧ ∀ (v : Int) H', 0 ≤ v → v < m → Kp [b] H H' → Box H' b r → Q (.int v) H'
theorem ok__law_draw (T : Txt P w K mg base) : DefOk P w K mg base "_law_draw" ["box", "many"] 1 sp_draw := by
  refine DefOk.by T.d__law_draw sc__law_draw oc__law_draw (fun vs H Q E h => ?_) (fun X e1 e2 e3 e4 e5 C H vs Q E h => ?_)
  · obtain ⟨b, r, m, rfl, _⟩ := h; rfl
  · obtain ⟨b, r, m, rfl, bx, hm, q⟩ := h
    have nbr := bx.br
    obtain ⟨i, ns, h1, h2, h3⟩ := bx
    wtm_at "go"
    wtm_at "w"
    refine xs_setIx ?_
    wtm_at "w"
    refine ⟨b, _, 1, 1, rfl, rfl, h1, ix1, fun H2 k2 e2 => ?_⟩
    have e2 : H2 b = some (.lst [.ref r, .int (i + 1)]) := e2
    have h3' : H2 r = some (.lst (ns.map V.int)) := k2.at1 nbr h3
    have hB : Box H2 b r := ⟨i + 1, ns, e2, by omega, h3'⟩
    wtm_at "w"
    refine ite_d (fun h => ?_) (fun h => ?_)
    · rw [List.length_map] at h
      wtm_at "w"
      have hk : i.toNat < ns.length := by omega
      refine vx_lst (Z.SqL.of' h3') (at_map h2 (List.getElem?_eq_getElem hk)) ?_
      wtm_at "w"
      refine vo_mod hm ?_
      exact q _ _ (Int.emod_nonneg _ (by omega)) (Int.emod_lt_of_pos _ hm) k2 hB
    · wtm_at "w"
      refine vo_mul (cmulR ⟨by decide, by decide⟩) ?_
      wtm_at "w"
      refine vo_mod hm ?_
      exact q _ _ (Int.emod_nonneg _ (by omega)) (Int.emod_lt_of_pos _ hm) k2 hB
/-! _law_number -/
def sp_number : Sp := fun vs H Q _ => ∃ (b r : Addr), vs = [.ref b] ∧ Box H b r ∧ ∀ (v : Int) H', 0 ≤ v → v < 2 ^ 70 → Kp [b] H H' → Box H' b r → Q (.int v) H'
theorem num_step {n d : Int} {i : Nat} (h : 0 ≤ n) (hn : n + 1 ≤ 840 ^ i) (h0 : 0 ≤ d) (h1 : d < 840) : 0 ≤ n * 840 + d ∧ n * 840 + d + 1 ≤ 840 ^ (i + 1) := by
  have e : (840 : Int) ^ (i + 1) = 840 ^ i * 840 := by rw [Int.pow_succ]
  rw [e]
  omega
theorem num_end {n : Int} {i : Nat} (hi : i ≤ 7) (hn : n + 1 ≤ 840 ^ i) : n < 2 ^ 70 := by
  have h7 : (840 : Int) ^ i ≤ 840 ^ 7 := by
    have : i = 0 ∨ i = 1 ∨ i = 2 ∨ i = 3 ∨ i = 4 ∨ i = 5 ∨ i = 6 ∨ i = 7 := by omega
    rcases this with rfl | rfl | rfl | rfl | rfl | rfl | rfl | rfl <;> decide
  have : (840 : Int) ^ 7 < 2 ^ 70 := by decide
  omega
theorem ok__law_number (T : Txt P w K mg base) : DefOk P w K mg base "_law_number" ["box"] 2 sp_number := by
  refine DefOk.by T.d__law_number sc__law_number oc__law_number (fun vs H Q E h => ?_) (fun X e1 e2 e3 e4 e5 C H vs Q E h => ?_)
  · obtain ⟨b, r, rfl, _⟩ := h; rfl
  · obtain ⟨b, r, rfl, hb, q⟩ := h
    wtm_at "go"
    wtm_at "w"
    refine ⟨b, r, 6, rfl, hb, by decide, fun v H1 v0 v1 k1 b1 => ?_⟩
    wtm_at "w"
    refine ite_d (fun h => ?_) (fun h => ?_)
    · wtm_at "w"
      exact ⟨b, r, 7, rfl, b1, by decide, fun u H2 u0 u1 k2 b2 => q u H2 u0 (Int.lt_trans u1 (by decide)) (k1.tr1 k2 (.inl (by simp))) b2⟩
    · wtm_at "w"
      refine xs_forR1 (by assumption) (by wtm_at "m") T.b_range ?_
      wtm_at "w"
      refine ⟨b, r, 7, rfl, b1, by decide, fun u H2 u0 u1 k2 b2 => ?_⟩
      wtm_at "w"
      refine ⟨1 + u, rfl, by omega, by omega, fun i σ H' => ∃ n : Int, ∃ vt, σ = [some (.ref b), some (.int v), some (.int n), vt] ∧ 0 ≤ n ∧ n + 1 ≤ 840 ^ i ∧ Kp [b] H H' ∧ Box H' b r, ⟨0, none, rfl, by decide, by decide, k1.tr1 k2 (.inl (by simp)), b2⟩, ?_, ?_⟩
      · rintro i σ' H3 hi ⟨n, vt, rfl, n0, n1, k3, b3⟩
        wtm_at "w"
        refine vo_mul (cmulR ⟨by decide, by decide⟩) ?_
        wtm_at "w"
        refine ⟨b, r, 840, rfl, b3, by decide, fun d H4 d0 d1 k4 b4 => ?_⟩
        wtm_at "w"
        have s := num_step n0 n1 d0 d1
        exact ⟨_, _, rfl, s.1, s.2, k3.tr1 k4 (.inl (by simp)), b4⟩
      · rintro σ' H3 ⟨n, vt, rfl, n0, n1, k3, b3⟩
        wtm_at "w"
        exact q n H3 n0 (num_end (by omega) n1) k3 b3
/-! _law_mixing -/
def PR : Int := 2305843009213693951
def sp_mixing (K : PySem.W.Frag) : Sp := fun vs H Q _ => ∃ (b r : Addr), vs = [.ref b] ∧ Box H b r ∧ ∀ (p : Addr) (n f : Int) H', 2 ≤ n → n ≤ 2 ^ 64 → 2 ≤ f → f < PR → Kp [b] H H' → Box H' b r → SqT K H' p [.int n, .int f] → Q (.ref p) H'
theorem pick {ns : List Int} {v : Int} (h0 : 0 ≤ v) (h1 : v < ns.length) : ∃ n, n ∈ ns ∧ atI (ns.map V.int) v = some (.int n) := by
  have hk : v.toNat < ns.length := by omega
  exact ⟨ns[v.toNat], List.getElem_mem hk, at_map h0 (List.getElem?_eq_getElem hk)⟩
theorem ok__law_mixing (T : Txt P w K mg base) : DefOk P w K mg base "_law_mixing" ["box"] 3 (sp_mixing K) := by
  refine DefOk.by T.d__law_mixing sc__law_mixing oc__law_mixing (fun vs H Q E h => ?_) (fun X e1 e2 e3 e4 e5 C H vs Q E h => ?_)
  · obtain ⟨b, r, rfl, _⟩ := h; rfl
  · obtain ⟨b, r, rfl, hb, q⟩ := h
    wtm_at "go"
    wtm_at "w"
    refine vo_mul (cmulR ⟨by decide, by decide⟩) ?_
    wtm_at "w"
    refine vo_pow ⟨by decide, by decide, by decide⟩ ?_
    wtm_at "w"
    intro p H1 k1 np hp
    wtm_at "w"
    refine ⟨b, r, 8, rfl, hb.kp k1, by decide, fun v H2 v0 v1 k2 b2 => ?_⟩
    have nb : p ∉ [b] := by simpa using (hb.nl np).1.symm
    obtain ⟨n, hn, hat⟩ := pick (ns := [2, 3, 5, 16, 50, 840 * 840, 2305843009213693951, 2 ^ 64]) v0 v1
    refine vx_lst (SqL.of' (k2.at nb hp)) hat ?_
    have n2 : 2 ≤ n ∧ n ≤ 2 ^ 64 := by
      have hh : ∀ m ∈ ([2, 3, 5, 16, 50, 840 * 840, 2305843009213693951, 2 ^ 64] : List Int), 2 ≤ m ∧ m ≤ 2 ^ 64 := by decide
      exact hh n hn
    have k3 : Kp [b] H H2 := (k1.wk fun _ m => nomatch m).tr1 k2 (.inl (by simp))
    wtm_at "w"
    refine ⟨b, r, 840, rfl, b2, by decide, fun d H3 d0 d1 k4 b3 => ?_⟩
    wtm_at "w"
    refine ⟨b, r, rfl, b3, fun u H4 u0 u1 k5 b4 => ?_⟩
    wtm_at "w"
    refine vo_mul (cmulL ⟨by decide, by decide⟩) ?_
    wtm_at "w"
    intro t H5 k6 ht _
    have g0 := Int.emod_nonneg (d + 840 * u) (show (2305843009213693949 : Int) ≠ 0 by decide)
    have g1 := Int.emod_lt_of_pos (d + 840 * u) (show (0 : Int) < 2305843009213693949 by decide)
    refine q t n _ H5 n2.1 n2.2 (by omega) (by unfold PR; omega) ?_ (b4.kp k6) ht
    exact ((k3.tr1 k4 (.inl (by simp))).tr1 k5 (.inl (by simp))).tr0 k6
/-! digests -/
/-! what a digest is -/
def mixS (f s n : Int) : Int := (s * f + n + 1) % PR
def mixF (f : Int) (ns : List Int) (s : Int) : Int := ns.foldl (mixS f) s
def dig (b f : Int) (ns : List Int) : Int := (mixF f (ns.length :: ns) 1 * 48271 + mixF f (ns.length :: ns) 1 / 65536) % b
theorem mixS_rng (f s n : Int) : 0 ≤ mixS f s n ∧ mixS f s n < PR := ⟨Int.emod_nonneg _ (by decide), Int.emod_lt_of_pos _ (by decide)⟩
theorem mixF_snoc (f : Int) (ns : List Int) (n s : Int) : mixF f (ns ++ [n]) s = mixS f (mixF f ns s) n := by unfold mixF; rw [List.foldl_append]; rfl
theorem mixF_take {f s n : Int} {ns : List Int} {i : Nat} (h : ns[i]? = some n) : mixF f (ns.take (i + 1)) s = mixS f (mixF f (ns.take i) s) n := by
  rw [List.take_add_one, h]; exact mixF_snoc _ _ _ _
theorem mixF_rng {f : Int} : ∀ (ns : List Int) (s : Int), 0 ≤ s → s < PR → 0 ≤ mixF f ns s ∧ mixF f ns s < PR
  | [], s, h0, h1 => ⟨h0, h1⟩
  | n :: ns, s, _, _ => mixF_rng ns (mixS f s n) (mixS_rng f s n).1 (mixS_rng f s n).2
theorem mulP {s : Int} (h0 : 0 ≤ s) (h1 : s < PR) : -(2 ^ 64) < s ∧ s < 2 ^ 64 := by unfold PR at h1; omega
theorem dig_rng {b f : Int} {ns : List Int} (hb : 0 < b) : 0 ≤ dig b f ns ∧ dig b f ns < b := ⟨Int.emod_nonneg _ (by omega), Int.emod_lt_of_pos _ hb⟩
/-- a mixing at p -/
def mxF (b f : Int) : List (Str × V) := putF "factor" (.int f) (putF "bound" (.int b) [])
theorem mx_b (b f : Int) : (mxF b f).lookup ("bound" : Str) = some (.int b) := by
  unfold mxF; rw [lookup_putF, if_neg (by decide +kernel), lookup_putF, if_pos rfl]
theorem mx_f (b f : Int) : (mxF b f).lookup ("factor" : Str) = some (.int f) := by
  unfold mxF; rw [lookup_putF, if_pos rfl]
def Mx (C : Addr) (H : Hp) (p : Addr) (b f : Int) : Prop := ∃ dx, H p = some (.ins C dx (mxF b f))
theorem Mx.kp {C p : Addr} {H H' : Hp} {b f : Int} (h : Mx C H p b f) (k : Kp [] H H') : Mx C H' p b f := by
  obtain ⟨dx, h⟩ := h
  exact ⟨dx, k.at0 h⟩
theorem Mx.kp1 {C p l : Addr} {H H' : Hp} {b f : Int} {xs : List V} (h : Mx C H p b f) (k : Kp [l] H H') (hl : H l = some (.lst xs)) : Mx C H' p b f := by
  obtain ⟨dx, h⟩ := h
  refine ⟨dx, k.at (fun m => ?_) h⟩
  rw [List.mem_singleton.mp m, hl] at h; cases h
theorem Mx.box {C p b' r : Addr} {H H' : Hp} {b f : Int} (h : Mx C H p b f) (bx : Box H b' r) (k : Kp [b'] H H') : Mx C H' p b f := by
  obtain ⟨dx, h⟩ := h
  exact ⟨dx, bx.other k (fun _ e => nomatch e) h⟩
theorem Mx.new {C p l : Addr} {H H' : Hp} {b f : Int} (h : Mx C H p b f) (n : p ≠ l) (k : Kp [l] H H') : Mx C H' p b f := by
  obtain ⟨dx, h⟩ := h
  exact ⟨dx, k.at1 n h⟩
theorem Mx.nl {C p l : Addr} {H : Hp} {b f : Int} (h : Mx C H p b f) (n : H l = none) : p ≠ l := by
  obtain ⟨dx, h⟩ := h
  exact ne_of_none h n
/-! Mixing -/
def sp_Mixing (C : Addr) : Sp := fun vs H Q _ => ∃ (z dx : Addr) (b f : Int), vs = [.ref z, .int b, .int f] ∧ H z = some (.ins C dx []) ∧ ∀ H', Kp [z] H H' → Mx C H' z b f → Q .non H'
theorem ok_Mixing (T : Txt P w K mg base) : ClsOk P w K mg base "Mixing" T.C_Mixing ["self", "bound", "factor"] 1 (sp_Mixing T.C_Mixing) := by
  obtain ⟨f, fd, M, F, b⟩ := T.mk_Mixing
  refine ⟨f, fd, fnOk_by F sc_Mixing___init__ oc_Mixing___init__ (fun vs H Q E h => ?_) (fun X e1 e2 e3 e4 e5 C H vs Q E h => ?_), T.mg_Mixing, M, b⟩
  · obtain ⟨z, dx, b, f, rfl, _⟩ := h; rfl
  · obtain ⟨z, dx, b, f, rfl, h1, q⟩ := h
    wtm_at "go"
    refine xs_fld ?_
    wtm_at "w"
    refine ⟨z, _, dx, _, rfl, h1, T.cl_Mixing, T.na_Mixing_bound, by decide, fun H1 k1 e1 => ?_⟩
    wtm_at "w"
    refine xs_fld ?_
    wtm_at "w"
    refine ⟨z, _, dx, _, rfl, e1, T.cl_Mixing, T.na_Mixing_factor, by show 1 < 1000; decide, fun H2 k2 e2 => ?_⟩
    wtm_at "w"
    exact q H2 (k1.tr1 k2 (.inl (by simp))) ⟨dx, e2⟩
/-! _mixed -/
def sp_mixed (C : Addr) : Sp := fun vs H Q _ => ∃ (p : Addr) (b f s n : Int), vs = [.ref p, .int s, .int n] ∧ Mx C H p b f ∧ 0 ≤ s ∧ s < PR ∧ Q (.int (mixS f s n)) H
theorem ok__mixed (T : Txt P w K mg base) : DefOk P w K mg base "_mixed" ["mixing", "state", "number"] 1 (sp_mixed T.C_Mixing) := by
  refine DefOk.by T.d__mixed sc__mixed oc__mixed (fun vs H Q E h => ?_) (fun X e1 e2 e3 e4 e5 C H vs Q E h => ?_)
  · obtain ⟨p, b, f, s, n, rfl, _⟩ := h; rfl
  · obtain ⟨p, b, f, s, n, rfl, ⟨dx, hp⟩, h0, h1, q⟩ := h
    wtm_at "go"
    wtm_at "w"
    refine xe_fld ?_
    wtm_at "w"
    refine ⟨p, _, dx, _, _, rfl, hp, T.cl_Mixing, T.na_Mixing_factor, mx_f b f, ?_⟩
    refine vo_mul (cmulL (mulP h0 h1)) ?_
    wtm_at "w"
    exact q
/-! digest -/
def sp_digest (K : PySem.W.Frag) (C : Addr) : Sp := fun vs H Q _ => ∃ (p r : Addr) (b f : Int) (ns : List Int), vs = [.ref p, .ref r] ∧ Mx C H p b f ∧ SqT K H r (ns.map V.int) ∧ 0 < b ∧ Q (.int (dig b f ns)) H
theorem ok_digest (T : Txt P w K mg base) : DefOk P w K mg base "digest" ["mixing", "row"] 2 (sp_digest K T.C_Mixing) := by
  refine DefOk.by T.d_digest sc_digest oc_digest (fun vs H Q E h => ?_) (fun X e1 e2 e3 e4 e5 C H vs Q E h => ?_)
  · obtain ⟨p, r, b, f, ns, rfl, _⟩ := h; rfl
  · obtain ⟨p, r, b, f, ns, rfl, hm, hr, hb, q⟩ := h
    wtm_at "go"
    wtm_at "w"
    refine ⟨p, b, f, 1, _, rfl, hm, by decide, by decide, ?_⟩
    wtm_at "w"
    refine xs_forT (by assumption) ?_
    wtm_at "w"
    have s0 := mixS_rng f 1 ((ns.map V.int).length : Int)
    refine ⟨r, _, rfl, hr, fun i σ H' => ∃ vn, σ = [some (.ref p), some (.ref r), some (.int (mixF f (ns.take i) (mixS f 1 ((ns.map V.int).length : Int)))), vn] ∧ H' = H, ⟨none, rfl, rfl⟩, ?_, ?_, ?_⟩
    · rintro i σ' H' hi ⟨vn, rfl, rfl⟩
      exact hr
    · rintro i y σ' H' hy ⟨vn, rfl, rfl⟩
      obtain ⟨n, hn, rfl⟩ := map_at hy
      have s1 := mixF_rng (f := f) (ns.take i) _ s0.1 s0.2
      wtm_at "w"
      refine ⟨p, b, f, _, n, rfl, hm, s1.1, s1.2, ?_⟩
      wtm_at "w"
      exact ⟨_, by rw [mixF_take hn], rfl⟩
    · rintro σ' H' ⟨vn, rfl, rfl⟩
      have e : (ns.take (ns.map V.int).length) = ns := by rw [List.length_map]; exact List.take_length
      rw [e]
      have s1 := mixF_rng (f := f) ns _ s0.1 s0.2
      wtm_at "w"
      refine vo_mul (cmulR ⟨by decide, by decide⟩) ?_
      wtm_at "w"
      refine xe_fld ?_
      wtm_at "w"
      obtain ⟨dx, hp⟩ := hm
      refine ⟨p, _, dx, _, _, rfl, hp, T.cl_Mixing, T.na_Mixing_bound, mx_b b f, ?_⟩
      refine vo_mod hb ?_
      have e2 : mixF f ns (mixS f 1 ((ns.map V.int).length : Int)) = mixF f (ns.length :: ns) 1 := by rw [List.length_map]; rfl
      rw [e2]
      exact q
/-! _law_is_integer -/
def sp_isint : Sp := fun vs H Q _ => ∃ v : Int, vs = [.int v] ∧ Q (.bl true) H
theorem ok__law_is_integer (T : Txt P w K mg base) : DefOk P w K mg base "_law_is_integer" ["told"] 1 sp_isint := by
  refine DefOk.by T.d__law_is_integer sc__law_is_integer oc__law_is_integer (fun vs H Q E h => ?_) (fun X e1 e2 e3 e4 e5 C H vs Q E h => ?_)
  · obtain ⟨v, rfl, _⟩ := h; rfl
  · obtain ⟨v, rfl, q⟩ := h
    wtm_at "go"
    wtm_at "w"
    refine vc_isi (t := "int") (u := true) (.base (.int v)) (by decide +kernel) ?_
    wtm_at "w"
    refine vc_isi (t := "int") (u := false) (.base (.int v)) (by decide +kernel) ?_
    wtm_at "w"
    exact q
/-! _law_digest -/
def sp_ldigest (K : PySem.W.Frag) : Sp := fun vs H Q _ => ∃ (p r : Addr) (b f : Int) (ns : List Int), vs = [.ref p, .ref r] ∧ SqT K H p [.int b, .int f] ∧ SqT K H r (ns.map V.int) ∧ 0 < b ∧ ns.length ≤ 10000 ∧ ∀ H', Kp [] H H' → Q (.int (dig b f ns)) H'
theorem ok__law_digest (T : Txt P w K mg base) : DefOk P w K mg base "_law_digest" ["m", "row"] 1 (sp_ldigest K) := by
  refine DefOk.by T.d__law_digest sc__law_digest oc__law_digest (fun vs H Q E h => ?_) (fun X e1 e2 e3 e4 e5 C H vs Q E h => ?_)
  · obtain ⟨p, r, b, f, ns, rfl, _⟩ := h; rfl
  · obtain ⟨p, r, b, f, ns, rfl, hm, hr, hb, hl, q⟩ := h
    wtm_at "go"
    wtm_at "w"
    refine xs_forL (by assumption) ?_
    wtm_at "w"
    intro l1 H1 k1 n1 e1
    wtm_at "w"
    refine vc_listT (by wtm_at "kp") (fun l2 H2 k2 n2 e2 => ?_)
    refine vo_catL (by wtm_at "kp") e2 (by rw [List.length_map]; exact sz_ (by simp; omega)) (fun l3 H3 k3 n3 e3 => ?_)
    have e3 : H3 l3 = some (.lst (((ns.length : Int) :: ns).map V.int)) := by rw [e3, List.length_map]; rfl
    have kk : Kp [] H H3 := (k1.tr0 k2).tr0 k3
    refine ⟨l3, _, rfl, Z.SqL.of' e3, fun i σ H' => ∃ vn, σ = [some (.ref p), some (.ref r), some (.int (mixF f (((ns.length : Int) :: ns).take i) 1)), vn] ∧ H' = H3, ⟨none, rfl, rfl⟩, ?_, ?_, ?_⟩
    · rintro i σ' H' hi ⟨vn, rfl, rfl⟩
      exact Z.SqL.of' e3
    · rintro i y σ' H' hy ⟨vn, rfl, rfl⟩
      obtain ⟨n, hn, rfl⟩ := map_at hy
      have s1 := mixF_rng (f := f) (((ns.length : Int) :: ns).take i) 1 (by decide) (by decide)
      wtm_at "w"
      refine vo_mul (cmulL (mulP s1.1 s1.2)) ?_
      wtm_at "w"
      exact ⟨_, by rw [mixF_take hn]; rfl, rfl⟩
    · rintro σ' H' ⟨vn, rfl, rfl⟩
      have e : (((ns.length : Int) :: ns).take ((((ns.length : Int) :: ns).map V.int).length)) = ((ns.length : Int) :: ns) := by rw [List.length_map]; exact List.take_length
      rw [e]
      wtm_at "w"
      refine vo_mul (cmulR ⟨by decide, by decide⟩) ?_
      wtm_at "w"
      refine vo_mod hb ?_
      exact q _ kk
/-! rows -/
/-- tuples of ints -/
def RowsAt (K : PySem.W.Frag) (H : Hp) (n : Nat) (xs : List V) : Prop := ∀ y ∈ xs, ∃ (q : Addr) (ns : List Int), y = V.ref q ∧ SqT K H q (ns.map V.int) ∧ ns.length ≤ n
theorem RowsAt.kp {K : PySem.W.Frag} {A : List Addr} {H H' : Hp} {n : Nat} {xs : List V} (h : RowsAt K H n xs) (k : Kp A H H') : RowsAt K H' n xs := fun y hy => by
  obtain ⟨q, ns, e, h1, h2⟩ := h y hy
  exact ⟨q, ns, e, k.tup h1, h2⟩
theorem RowsAt.snoc {K : PySem.W.Frag} {H : Hp} {n : Nat} {xs : List V} {q : Addr} {ns : List Int} (h : RowsAt K H n xs) (h1 : SqT K H q (ns.map V.int)) (h2 : ns.length ≤ n) : RowsAt K H n (xs ++ [.ref q]) := fun y hy => by
  rcases List.mem_append.mp hy with m | m
  · exact h y m
  · exact ⟨q, ns, List.mem_singleton.mp m, h1, h2⟩
theorem cut_ints (rs : List Int) (lo hi : Option Int) : ∃ ns : List Int, cutV (rs.map V.int) lo hi = ns.map V.int ∧ ns.length ≤ rs.length := by
  refine ⟨(rs.drop (HT.sIx (rs.map V.int).length 0 lo)).take (HT.sIx (rs.map V.int).length (rs.map V.int).length hi - HT.sIx (rs.map V.int).length 0 lo), ?_, ?_⟩
  · unfold cutV
    rw [List.map_take, List.map_drop]
  · rw [List.length_take, List.length_drop]; omega
def sp_law (K : PySem.W.Frag) : Sp := fun vs H Q _ => ∃ (a : Addr) (ns : List Int), vs = [.ref a] ∧ SqL K H a (ns.map V.int) ∧ ns.length ≤ 63 ∧ ∀ H', Q (.bl true) H'
/-! law -/
theorem fn_law {f : Addr} {fd : FuncData} (T : Txt P w K mg base) (F : Fun K "law" "law" s_law f fd) : FnOk P w K mg base CX0 5 f fd ["script"] (sp_law K) := by
  refine fnOk_by F sc_law oc_law (fun vs H Q E h => ?_) (fun X e1 e2 e3 e4 e5 C H vs Q E h => ?_)
  · obtain ⟨a, ns, rfl, _⟩ := h; rfl
  · obtain ⟨a, ns, rfl, hS, hl, q⟩ := h
    wtm_at "go"
    wtm_at "w"
    refine ⟨a, ns, 1, 12, rfl, hS, by decide, by decide, by decide, by decide, fun r H1 rs k1 nr hr hrs => ?_⟩
    wtm_at "w"
    intro b H2 k2 nb hb
    have bx : Box H2 b r := ⟨0, rs, hb, by decide, k2.at0 hr⟩
    have hS2 : SqL X.K H2 a (ns.map V.int) := by wtm_at "kp"
    wtm_at "w"
    refine ⟨b, r, rfl, bx, fun pm n f H3 n2 n64 f2 fP k3 bx3 hm => ?_⟩
    have hS3 : SqL X.K H3 a (ns.map V.int) := bx.ints k3 hS2
    wtm_at "w"
    intro z dx nz nd ne
    refine ⟨z, dx, n, f, rfl, upd_same, fun H4 k4 hz => ⟨rfl, ?_⟩⟩
    have k34 : Kp [] H3 H4 := (Kp.made nz nd ne).tr1 k4 (.inr nz)
    have hm4 : SqT X.K H4 pm [.int n, .int f] := k34.tup hm
    have bx4 := bx3.kp k34
    have hS4 : SqL X.K H4 a (ns.map V.int) := k34.lst0 hS3
    wtm_at "w"
    refine xe_fld ?_
    wtm_at "w"
    obtain ⟨dz, hz'⟩ := id hz
    refine ⟨z, _, dz, _, _, rfl, hz', T.cl_Mixing, T.na_Mixing_bound, mx_b n f, ?_⟩
    wtm_at "w"
    refine ite_nd (fun h => absurd rfl h) (fun _ => ?_)
    wtm_at "w"
    refine xe_fld ?_
    wtm_at "w"
    refine ⟨z, _, dz, _, _, rfl, hz', T.cl_Mixing, T.na_Mixing_factor, mx_f n f, ?_⟩
    wtm_at "w"
    refine ite_nd (fun h => absurd rfl h) (fun _ => ?_)
    wtm_at "w"
    intro pr H5 k5 hr5 _
    wtm_at "w"
    refine xs_forR1 (by assumption) (by wtm_at "m") T.b_range ?_
    wtm_at "w"
    refine ⟨13, rfl, by decide, by decide, fun i σ H' => ∃ pr, ∃ rs : List Int, ∃ vt vo vd, σ = [some (.ref a), some (.ref b), some (.ref pm), some (.ref z), some (.ref pr), vt, vo, vd] ∧ SqT X.K H' pr (rs.map V.int) ∧ rs.length = i ∧
      Box H' b r ∧ Mx T.C_Mixing H' z n f ∧ SqT X.K H' pm [.int n, .int f] ∧ SqL X.K H' a (ns.map V.int), ⟨pr, [], none, none, none, rfl, hr5, rfl, bx4.kp k5, hz.kp k5, k5.tup hm4, k5.lst0 hS4⟩, ?_, ?_⟩
    · rintro i σ' H6 hi ⟨pr, rs, vt, vo, vd, rfl, h1, h2, h3, h4, h5, h6⟩
      have hi' : i < 13 := hi
      wtm_at "w"
      refine xs_forL (by assumption) ?_
      wtm_at "w"
      intro t0 H7 k7 ht0 _
      refine vo_catT (by wtm_at "kp") (show SqT X.K H7 t0 (([0] : List Int).map V.int) from ht0) (sz_ (by simp; omega)) (fun t1 H8 k8 ht1 => ?_)
      wtm_at "w"
      refine vsl_tup (by wtm_at "kp") (fun t2 H9 k9 ht2 => ?_)
      wtm_at "w"
      refine ⟨a, ns, i, rfl, by wtm_at "kp", by omega, fun c => ?_⟩
      wtm_at "w"
      generalize (if c < 0 then -c else c) = c'
      intro t3 H10 k10 ht3 _
      wtm_at "w"
      refine vo_catT (show SqT X.K H10 t3 (([c'] : List Int).map V.int) from ht3) (by wtm_at "kp") (sz_ (by simp; omega)) (fun t4 H11 k11 ht4 => ?_)
      wtm_at "w"
      intro L H12 k12 nL hL
      obtain ⟨ns2, e2, l2⟩ := cut_ints rs none (some (-1))
      have f2 : SqT X.K H12 t1 ((rs ++ [0]).map V.int) := by rw [List.map_append]; wtm_at "kp"
      have f3 : SqT X.K H12 t2 (ns2.map V.int) := by rw [← e2]; wtm_at "kp"
      have f4 : SqT X.K H12 t4 ((c' :: rs).map V.int) := k12.tup ht4
      have kk : Kp [] H6 H12 := ((((k7.tr0 k8).tr0 k9).tr0 k10).tr0 k11).tr0 k12
      have f1 : SqT X.K H12 pr (rs.map V.int) := kk.tup h1
      have all : ∀ y ∈ ([V.ref pr, V.ref t1, V.ref t2, V.ref t4] : List V), ∃ (q : Addr) (ns : List Int), y = V.ref q ∧ SqT X.K H12 q (ns.map V.int) ∧ ns.length ≤ 100 := by
        intro y hy
        simp only [List.mem_cons, List.not_mem_nil, or_false] at hy
        rcases hy with rfl | rfl | rfl | rfl
        · exact ⟨_, _, rfl, f1, by omega⟩
        · exact ⟨_, _, rfl, f2, by simp; omega⟩
        · exact ⟨_, _, rfl, f3, by omega⟩
        · exact ⟨_, _, rfl, f4, by simp; omega⟩
      refine ⟨L, _, rfl, Z.SqL.of' hL, fun j σ H' => ∃ vo vd, σ = [some (.ref a), some (.ref b), some (.ref pm), some (.ref z), some (.ref pr), some (.int i), vo, vd] ∧ Kp [] H12 H', ⟨vo, vd, rfl, Kp.refl _ _⟩, ?_, ?_, ?_⟩
      · rintro j σ' H' _ ⟨vo, vd, rfl, k⟩
        exact k.lst0 (Z.SqL.of' hL)
      · rintro j y σ' H' hy ⟨vo, vd, rfl, k⟩
        obtain ⟨q, ms, rfl, hq, lq⟩ := all y (List.mem_of_getElem? hy)
        have kk' := kk.tr0 k
        wtm_at "w"
        refine ⟨z, q, n, f, ms, rfl, h4.kp kk', k.tup hq, by omega, ?_⟩
        wtm_at "w"
        refine ⟨_, rfl, ?_⟩
        wtm_at "w"
        refine ⟨pm, q, n, f, ms, rfl, kk'.tup h5, k.tup hq, by omega, by omega, fun H13 k13 => ?_⟩
        wtm_at "w"
        refine ite_nd (fun h => absurd rfl h) (fun _ => ?_)
        have rg := dig_rng (b := n) (f := f) (ns := ms) (by omega)
        wtm_at "w"
        refine ite_d (fun _ => ?_) (fun h => absurd rg.1 h)
        wtm_at "w"
        refine ite_nd (fun h => absurd rg.2 h) (fun _ => ?_)
        wtm_at "w"
        exact ⟨_, _, rfl, k.tr0 k13⟩
      · rintro σ' H' ⟨vo, vd, rfl, k⟩
        have kk' := kk.tr0 k
        wtm_at "w"
        refine ⟨b, r, rfl, h3.kp kk', fun u H13 u0 u1 k13 b13 => ?_⟩
        wtm_at "w"
        intro t5 H14 k14 ht5 _
        have g : ∀ p xs, SqT X.K H6 p xs → SqT X.K H14 p xs := fun p xs h => k14.tup (k13.tup (kk'.tup h))
        refine vo_catT (g _ _ h1) (show SqT X.K H14 t5 (([u] : List Int).map V.int) from ht5) (sz_ (by simp; omega)) (fun t6 H15 k15 ht6 => ?_)
        wtm_at "w"
        refine ⟨t6, rs ++ [u], _, _, _, rfl, by rw [List.map_append]; exact ht6, by simp; omega, (b13.kp k14).kp k15, (Mx.box (h4.kp kk') (h3.kp kk') k13 |>.kp k14).kp k15, k15.tup (g _ _ h5), ?_⟩
        exact k15.lst0 (k14.lst0 ((h3.kp kk').ints k13 (kk'.lst0 h6)))
    · rintro σ' H6 ⟨pr, rs, vt, vo, vd, rfl, _⟩
      wtm_at "w"
      exact q _
/-! the end -/
theorem all_mk {l : PySem.W.OpenLaw} {w : World} {K : PySem.W.Frag} {h : Heap} {mg : Str → Option Value} {fa f_digest f__mixed f__law_cell f__law_row f__law_draw f__law_is_integer f__law_digest f__law_number f__law_mixing f_law f_Mixing___init__ C_Mixing : Addr} (X : K.In h) (G : h.Ns mainGlobals mg) (hfa : mg "law" = some (.ref fa))
    {od_digest an_digest od__mixed an__mixed od__law_cell an__law_cell od__law_row an__law_row od__law_draw an__law_draw od__law_is_integer an__law_is_integer od__law_digest an__law_digest od__law_number an__law_number od__law_mixing an__law_mixing od_law an_law od_Mixing___init__ an_Mixing___init__ : Option Addr} {sl_digest sl__mixed sl__law_cell sl__law_row sl__law_draw sl__law_is_integer sl__law_digest sl__law_number sl__law_mixing sl_law sl_Mixing___init__ : Array (Option Value)} {oc_digest kV_digest dc_digest pm_digest cd_digest ct_digest oc__mixed kV__mixed dc__mixed pm__mixed cd__mixed ct__mixed oc__law_cell kV__law_cell dc__law_cell pm__law_cell cd__law_cell ct__law_cell oc__law_row kV__law_row dc__law_row pm__law_row cd__law_row ct__law_row oc__law_draw kV__law_draw dc__law_draw pm__law_draw cd__law_draw ct__law_draw oc__law_is_integer kV__law_is_integer dc__law_is_integer pm__law_is_integer cd__law_is_integer ct__law_is_integer oc__law_digest kV__law_digest dc__law_digest pm__law_digest cd__law_digest ct__law_digest oc__law_number kV__law_number dc__law_number pm__law_number cd__law_number ct__law_number oc__law_mixing kV__law_mixing dc__law_mixing pm__law_mixing cd__law_mixing ct__law_mixing oc_law kV_law dc_law pm_law cd_law ct_law oc_Mixing___init__ kV_Mixing___init__ dc_Mixing___init__ pm_Mixing___init__ cd_Mixing___init__ ct_Mixing___init__ : Value}
    {t_PRIME : Tok}
    (aC_Mixing : PySem.W.nsIn K mainGlobals "Mixing" = some (some (.ref C_Mixing)))
    (a_digest : PySem.W.nsIn K mainGlobals "digest" = some (some (.ref f_digest)))
    (l_digest : K.lookup f_digest = some ⟨oc_digest, od_digest, .func (PySem.W.fnOf "digest" "digest" (defArgs s_digest) (defBody s_digest) (defScope s_digest) .none kV_digest dc_digest pm_digest an_digest cd_digest ct_digest), sl_digest⟩)
    (c_digest : PySem.W.codeIn K cd_digest "digest" = true)
    (k_digest : PySem.W.keepIn K (.ref f_digest) = true)
    (a__mixed : PySem.W.nsIn K mainGlobals "_mixed" = some (some (.ref f__mixed)))
    (l__mixed : K.lookup f__mixed = some ⟨oc__mixed, od__mixed, .func (PySem.W.fnOf "_mixed" "_mixed" (defArgs s__mixed) (defBody s__mixed) (defScope s__mixed) .none kV__mixed dc__mixed pm__mixed an__mixed cd__mixed ct__mixed), sl__mixed⟩)
    (c__mixed : PySem.W.codeIn K cd__mixed "_mixed" = true)
    (k__mixed : PySem.W.keepIn K (.ref f__mixed) = true)
    (a__law_cell : PySem.W.nsIn K mainGlobals "_law_cell" = some (some (.ref f__law_cell)))
    (l__law_cell : K.lookup f__law_cell = some ⟨oc__law_cell, od__law_cell, .func (PySem.W.fnOf "_law_cell" "_law_cell" (defArgs s__law_cell) (defBody s__law_cell) (defScope s__law_cell) .none kV__law_cell dc__law_cell pm__law_cell an__law_cell cd__law_cell ct__law_cell), sl__law_cell⟩)
    (c__law_cell : PySem.W.codeIn K cd__law_cell "_law_cell" = true)
    (k__law_cell : PySem.W.keepIn K (.ref f__law_cell) = true)
    (a__law_row : PySem.W.nsIn K mainGlobals "_law_row" = some (some (.ref f__law_row)))
    (l__law_row : K.lookup f__law_row = some ⟨oc__law_row, od__law_row, .func (PySem.W.fnOf "_law_row" "_law_row" (defArgs s__law_row) (defBody s__law_row) (defScope s__law_row) .none kV__law_row dc__law_row pm__law_row an__law_row cd__law_row ct__law_row), sl__law_row⟩)
    (c__law_row : PySem.W.codeIn K cd__law_row "_law_row" = true)
    (k__law_row : PySem.W.keepIn K (.ref f__law_row) = true)
    (a__law_draw : PySem.W.nsIn K mainGlobals "_law_draw" = some (some (.ref f__law_draw)))
    (l__law_draw : K.lookup f__law_draw = some ⟨oc__law_draw, od__law_draw, .func (PySem.W.fnOf "_law_draw" "_law_draw" (defArgs s__law_draw) (defBody s__law_draw) (defScope s__law_draw) .none kV__law_draw dc__law_draw pm__law_draw an__law_draw cd__law_draw ct__law_draw), sl__law_draw⟩)
    (c__law_draw : PySem.W.codeIn K cd__law_draw "_law_draw" = true)
    (k__law_draw : PySem.W.keepIn K (.ref f__law_draw) = true)
    (a__law_is_integer : PySem.W.nsIn K mainGlobals "_law_is_integer" = some (some (.ref f__law_is_integer)))
    (l__law_is_integer : K.lookup f__law_is_integer = some ⟨oc__law_is_integer, od__law_is_integer, .func (PySem.W.fnOf "_law_is_integer" "_law_is_integer" (defArgs s__law_is_integer) (defBody s__law_is_integer) (defScope s__law_is_integer) .none kV__law_is_integer dc__law_is_integer pm__law_is_integer an__law_is_integer cd__law_is_integer ct__law_is_integer), sl__law_is_integer⟩)
    (c__law_is_integer : PySem.W.codeIn K cd__law_is_integer "_law_is_integer" = true)
    (k__law_is_integer : PySem.W.keepIn K (.ref f__law_is_integer) = true)
    (a__law_digest : PySem.W.nsIn K mainGlobals "_law_digest" = some (some (.ref f__law_digest)))
    (l__law_digest : K.lookup f__law_digest = some ⟨oc__law_digest, od__law_digest, .func (PySem.W.fnOf "_law_digest" "_law_digest" (defArgs s__law_digest) (defBody s__law_digest) (defScope s__law_digest) .none kV__law_digest dc__law_digest pm__law_digest an__law_digest cd__law_digest ct__law_digest), sl__law_digest⟩)
    (c__law_digest : PySem.W.codeIn K cd__law_digest "_law_digest" = true)
    (k__law_digest : PySem.W.keepIn K (.ref f__law_digest) = true)
    (a__law_number : PySem.W.nsIn K mainGlobals "_law_number" = some (some (.ref f__law_number)))
    (l__law_number : K.lookup f__law_number = some ⟨oc__law_number, od__law_number, .func (PySem.W.fnOf "_law_number" "_law_number" (defArgs s__law_number) (defBody s__law_number) (defScope s__law_number) .none kV__law_number dc__law_number pm__law_number an__law_number cd__law_number ct__law_number), sl__law_number⟩)
    (c__law_number : PySem.W.codeIn K cd__law_number "_law_number" = true)
    (k__law_number : PySem.W.keepIn K (.ref f__law_number) = true)
    (a__law_mixing : PySem.W.nsIn K mainGlobals "_law_mixing" = some (some (.ref f__law_mixing)))
    (l__law_mixing : K.lookup f__law_mixing = some ⟨oc__law_mixing, od__law_mixing, .func (PySem.W.fnOf "_law_mixing" "_law_mixing" (defArgs s__law_mixing) (defBody s__law_mixing) (defScope s__law_mixing) .none kV__law_mixing dc__law_mixing pm__law_mixing an__law_mixing cd__law_mixing ct__law_mixing), sl__law_mixing⟩)
    (c__law_mixing : PySem.W.codeIn K cd__law_mixing "_law_mixing" = true)
    (k__law_mixing : PySem.W.keepIn K (.ref f__law_mixing) = true)
    (a_law : PySem.W.nsIn K mainGlobals "law" = some (some (.ref f_law)))
    (l_law : K.lookup f_law = some ⟨oc_law, od_law, .func (PySem.W.fnOf "law" "law" (defArgs s_law) (defBody s_law) (defScope s_law) .none kV_law dc_law pm_law an_law cd_law ct_law), sl_law⟩)
    (c_law : PySem.W.codeIn K cd_law "law" = true)
    (k_law : PySem.W.keepIn K (.ref f_law) = true)
    (a_Mixing___init__ : PySem.W.findIn K (.ref C_Mixing) "__init__" = some (some (.ref f_Mixing___init__)))
    (i_Mixing___init__ : PySem.W.isFn K (.ref f_Mixing___init__) = true)
    (l_Mixing___init__ : K.lookup f_Mixing___init__ = some ⟨oc_Mixing___init__, od_Mixing___init__, .func (PySem.W.fnOf "__init__" "Mixing.__init__" (defArgs s_Mixing___init__) (defBody s_Mixing___init__) (defScope s_Mixing___init__) .none kV_Mixing___init__ dc_Mixing___init__ pm_Mixing___init__ an_Mixing___init__ cd_Mixing___init__ ct_Mixing___init__), sl_Mixing___init__⟩)
    (c_Mixing___init__ : PySem.W.codeIn K cd_Mixing___init__ "Mixing.__init__" = true)
    (k_Mixing___init__ : PySem.W.keepIn K (.ref f_Mixing___init__) = true)
    (pg_Mixing : PySem.W.plainGet K C_Mixing Str.empty = true)
    (hd_Mixing : PySem.W.hasDictIn K C_Mixing = true)
    (po_Mixing : PySem.W.plainOver K C_Mixing = true)
    (sa_Mixing : PySem.W.findIn K (.ref C_Mixing) "__setattr__" = some (some (.builtin "object.__setattr__")))
    (mk_Mixing : PySem.W.makesIn K C_Mixing = true)
    (kc_Mixing : PySem.W.keepIn K (.ref C_Mixing) = true)
    (n_Mixing_bound : PySem.W.findIn K (.ref C_Mixing) "bound" = some none)
    (n_Mixing_factor : PySem.W.findIn K (.ref C_Mixing) "factor" = some none)
    (z_abs : PySem.W.nsIn K mainGlobals "abs" = some none)
    (z_bool : PySem.W.nsIn K mainGlobals "bool" = some none)
    (z_int : PySem.W.nsIn K mainGlobals "int" = some none)
    (z_isinstance : PySem.W.nsIn K mainGlobals "isinstance" = some none)
    (z_len : PySem.W.nsIn K mainGlobals "len" = some none)
    (z_list : PySem.W.nsIn K mainGlobals "list" = some none)
    (z_range : PySem.W.nsIn K mainGlobals "range" = some none)
    (v_PRIME : PySem.W.nsIn K mainGlobals "PRIME" = some (some (.int 2305843009213693951 t_PRIME)))
    : ∃ fd : FuncData, (∀ (s : Shared) (v : Value), BindsTo s fd ⟨[v], []⟩ [("script", v)]) ∧ ∀ base : Heap, K.In base → base.Ns mainGlobals mg → FnOk l.prog w K mg base CX0 5 fa fd ["script"] (sp_law K) := by
  have e := hfa.symm.trans (PySem.W.mg_of X G a_law)
  cases e
  have F_digest := fun_mk (st := s_digest) l_digest c_digest k_digest
  have b_digest := F_digest.binds (ps := ["mixing", "row"]) fun _ _ _ _ _ _ us hl => match us, hl with | [_, _], _ => rfl
  have F__mixed := fun_mk (st := s__mixed) l__mixed c__mixed k__mixed
  have b__mixed := F__mixed.binds (ps := ["mixing", "state", "number"]) fun _ _ _ _ _ _ us hl => match us, hl with | [_, _, _], _ => rfl
  have F__law_cell := fun_mk (st := s__law_cell) l__law_cell c__law_cell k__law_cell
  have b__law_cell := F__law_cell.binds (ps := ["script", "k"]) fun _ _ _ _ _ _ us hl => match us, hl with | [_, _], _ => rfl
  have F__law_row := fun_mk (st := s__law_row) l__law_row c__law_row k__law_row
  have b__law_row := F__law_row.binds (ps := ["script", "first", "last"]) fun _ _ _ _ _ _ us hl => match us, hl with | [_, _, _], _ => rfl
  have F__law_draw := fun_mk (st := s__law_draw) l__law_draw c__law_draw k__law_draw
  have b__law_draw := F__law_draw.binds (ps := ["box", "many"]) fun _ _ _ _ _ _ us hl => match us, hl with | [_, _], _ => rfl
  have F__law_is_integer := fun_mk (st := s__law_is_integer) l__law_is_integer c__law_is_integer k__law_is_integer
  have b__law_is_integer := F__law_is_integer.binds (ps := ["told"]) fun _ _ _ _ _ _ us hl => match us, hl with | [_], _ => rfl
  have F__law_digest := fun_mk (st := s__law_digest) l__law_digest c__law_digest k__law_digest
  have b__law_digest := F__law_digest.binds (ps := ["m", "row"]) fun _ _ _ _ _ _ us hl => match us, hl with | [_, _], _ => rfl
  have F__law_number := fun_mk (st := s__law_number) l__law_number c__law_number k__law_number
  have b__law_number := F__law_number.binds (ps := ["box"]) fun _ _ _ _ _ _ us hl => match us, hl with | [_], _ => rfl
  have F__law_mixing := fun_mk (st := s__law_mixing) l__law_mixing c__law_mixing k__law_mixing
  have b__law_mixing := F__law_mixing.binds (ps := ["box"]) fun _ _ _ _ _ _ us hl => match us, hl with | [_], _ => rfl
  have F_law := fun_mk (st := s_law) l_law c_law k_law
  have F_Mixing___init__ := fun_mk (st := s_Mixing___init__) l_Mixing___init__ c_Mixing___init__ k_Mixing___init__
  have b_Mixing___init__ := F_Mixing___init__.binds (ps := ["self", "bound", "factor"]) fun _ _ _ _ _ _ us hl => match us, hl with | [_, _, _], _ => rfl
  refine ⟨PySem.W.fnOf "law" "law" (defArgs s_law) (defBody s_law) (defScope s_law) .none kV_law dc_law pm_law an_law cd_law ct_law, fun s v => .of_eq rfl, fun base _ _ => ?_⟩
  have T : Txt l.prog w K mg base := { b_abs := PySem.W.mg_none_of X G z_abs, b_bool := PySem.W.mg_none_of X G z_bool, b_int := PySem.W.mg_none_of X G z_int, b_isinstance := PySem.W.mg_none_of X G z_isinstance, b_len := PySem.W.mg_none_of X G z_len, b_list := PySem.W.mg_none_of X G z_list, b_range := PySem.W.mg_none_of X G z_range, c_PRIME := ⟨t_PRIME, PySem.W.mg_of X G v_PRIME⟩, d_digest := ⟨_, _, F_digest, PySem.W.mg_of X G a_digest, b_digest⟩, d__mixed := ⟨_, _, F__mixed, PySem.W.mg_of X G a__mixed, b__mixed⟩, d__law_cell := ⟨_, _, F__law_cell, PySem.W.mg_of X G a__law_cell, b__law_cell⟩, d__law_row := ⟨_, _, F__law_row, PySem.W.mg_of X G a__law_row, b__law_row⟩, d__law_draw := ⟨_, _, F__law_draw, PySem.W.mg_of X G a__law_draw, b__law_draw⟩, d__law_is_integer := ⟨_, _, F__law_is_integer, PySem.W.mg_of X G a__law_is_integer, b__law_is_integer⟩, d__law_digest := ⟨_, _, F__law_digest, PySem.W.mg_of X G a__law_digest, b__law_digest⟩, d__law_number := ⟨_, _, F__law_number, PySem.W.mg_of X G a__law_number, b__law_number⟩, d__law_mixing := ⟨_, _, F__law_mixing, PySem.W.mg_of X G a__law_mixing, b__law_mixing⟩, C_Mixing := C_Mixing, cl_Mixing := ⟨pg_Mixing, hd_Mixing, po_Mixing, sa_Mixing⟩, mg_Mixing := PySem.W.mg_of X G aC_Mixing, na_Mixing_bound := n_Mixing_bound, na_Mixing_factor := n_Mixing_factor, mk_Mixing := ⟨_, _, ⟨mk_Mixing, a_Mixing___init__, i_Mixing___init__, kc_Mixing⟩, F_Mixing___init__, b_Mixing___init__⟩ }
  exact fn_law T F_law
theorem walk {l : PySem.W.OpenLaw} {q : Program} {loose : List Str} {XP : (Str → Option Value) → Heap → Prop} {YP : World → Heap → Prop} {d : DefRec} {K : Params → PySem.W.Frag} (hn : l.most = some 63) (hdf : d.params.defaults = []) (hY : ∀ (w : World) (h : Heap), YP w h → (K w.params).In h)
    (F : ∀ (w : World) (mg : Str → Option Value) (fa : Addr) (h : Heap), (K w.params).In h → h.Ns mainGlobals mg → mg d.name = some (.ref fa) →
      ∃ fd : FuncData, (∀ (s : Shared) (u : Value), BindsTo s fd ⟨[u], []⟩ [("script", u)]) ∧ ∀ base : Heap, (K w.params).In base → base.Ns mainGlobals mg → FnOk l.prog w (K w.params) mg base CX0 5 fa fd ["script"] (sp_law (K w.params))) :
    PySem.W.WalkO q loose XP YP l.row.toRowW d [] (fun f vs => PySem.call f vs) :=
  L2.walk_of (n := 63) (k := 5) (x := "script") (CX := fun _ => CX0) (sp := fun w => sp_law (K w.params)) hn (by decide) hdf ⟨rfl, by decide, by decide⟩ hY F (fun _ _ a ns hl _ hS => ⟨a, ns, rfl, hS, hl, fun _ => rfl⟩) fun _ _ _ _ _ z => z
end Law
open PySem PySem.W PyProof.Rows in
set_option maxRecDepth 100000 in
set_option maxHeartbeats 0 in
theorem PySem.Challenge.cw_sealround_k01_digests_holds : PySem.Challenge.rw_sealround_k01_digests.Holds := by
  w_on; o_law; k_head; (case hw => w_witness2)
  k_fill
  refine Law.walk (l := PySem.Challenge.rw_sealround_k01_digests) rfl rfl (fun w h Y => PySem.W.kIn_of Y) ?F
  case F =>
    intro w mg fa h KX G hmg
    refine' Law.all_mk KX G hmg ?aC_Mixing ?a_digest ?l_digest ?c_digest ?k_digest ?a__mixed ?l__mixed ?c__mixed ?k__mixed ?a__law_cell ?l__law_cell ?c__law_cell ?k__law_cell ?a__law_row ?l__law_row ?c__law_row ?k__law_row ?a__law_draw ?l__law_draw ?c__law_draw ?k__law_draw ?a__law_is_integer ?l__law_is_integer ?c__law_is_integer ?k__law_is_integer ?a__law_digest ?l__law_digest ?c__law_digest ?k__law_digest ?a__law_number ?l__law_number ?c__law_number ?k__law_number ?a__law_mixing ?l__law_mixing ?c__law_mixing ?k__law_mixing ?a_law ?l_law ?c_law ?k_law ?a_Mixing___init__ ?i_Mixing___init__ ?l_Mixing___init__ ?c_Mixing___init__ ?k_Mixing___init__ ?pg_Mixing ?hd_Mixing ?po_Mixing ?sa_Mixing ?mk_Mixing ?kc_Mixing ?n_Mixing_bound ?n_Mixing_factor ?z_abs ?z_bool ?z_int ?z_isinstance ?z_len ?z_list ?z_range ?v_PRIME
    (case aC_Mixing => k_is)
    (case a_digest => k_is)
    (case l_digest => k_is)
    (case c_digest => k_is)
    (case k_digest => k_is)
    (case a__mixed => k_is)
    (case l__mixed => k_is)
    (case c__mixed => k_is)
    (case k__mixed => k_is)
    (case a__law_cell => k_is)
    (case l__law_cell => k_is)
    (case c__law_cell => k_is)
    (case k__law_cell => k_is)
    (case a__law_row => k_is)
    (case l__law_row => k_is)
    (case c__law_row => k_is)
    (case k__law_row => k_is)
    (case a__law_draw => k_is)
    (case l__law_draw => k_is)
    (case c__law_draw => k_is)
    (case k__law_draw => k_is)
    (case a__law_is_integer => k_is)
    (case l__law_is_integer => k_is)
    (case c__law_is_integer => k_is)
    (case k__law_is_integer => k_is)
    (case a__law_digest => k_is)
    (case l__law_digest => k_is)
    (case c__law_digest => k_is)
    (case k__law_digest => k_is)
    (case a__law_number => k_is)
    (case l__law_number => k_is)
    (case c__law_number => k_is)
    (case k__law_number => k_is)
    (case a__law_mixing => k_is)
    (case l__law_mixing => k_is)
    (case c__law_mixing => k_is)
    (case k__law_mixing => k_is)
    (case a_law => k_is)
    (case l_law => k_is)
    (case c_law => k_is)
    (case k_law => k_is)
    (case a_Mixing___init__ => k_is)
    (case i_Mixing___init__ => k_is)
    (case l_Mixing___init__ => k_is)
    (case c_Mixing___init__ => k_is)
    (case k_Mixing___init__ => k_is)
    (case pg_Mixing => k_is)
    (case hd_Mixing => k_is)
    (case po_Mixing => k_is)
    (case sa_Mixing => k_is)
    (case mk_Mixing => k_is)
    (case kc_Mixing => k_is)
    (case n_Mixing_bound => k_is)
    (case n_Mixing_factor => k_is)
    (case z_abs => k_is)
    (case z_bool => k_is)
    (case z_int => k_is)
    (case z_isinstance => k_is)
    (case z_len => k_is)
    (case z_list => k_is)
    (case z_range => k_is)
    (case v_PRIME => k_is)
