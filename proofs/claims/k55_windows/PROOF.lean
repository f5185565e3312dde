import PyProof.Rows.All
import Wide.All
import OpenK.AllK
import Wide.FinOn
import HandS.ForMost
import HandS.IsInst
import HandS.Star
import HandS.WideBits
import HandS.Style
import HandS.Wide
import HandS.Flow
import HandS.TupAny
import HandS.Zip
import KE.GoesNew
import KE.GoesMore
import KE.KDictCopyH
import KE.GoesEnumKw
import HandS.Conv
import HandS.ForExc
import HandS.ExcInit
import HandS.ExcField
import KE.KExcIs
import HandS.ExcIs
import HandS.Codes
import HandS.Deep
import KE.DataMinMax
import PySem.Challenge.RW_sealround_k55_windows
set_option Elab.async false
set_option linter.all false
set_option maxRecDepth 100000
set_option maxHeartbeats 4000000
namespace Z
open PySem L2

/-! ## one heap and the next: all but what stands in A is kept, tuples and what is locked always, nothing goes -/
structure Kp (A : List Addr) (H H' : Hp) : Prop where
  k : ∀ q o, q ∉ A → H q = some o → H' q = some o
  t : ∀ q xs, H q = some (.tup xs) → H' q = some (.tup xs)
  z : ∀ q o u, H q = some (.frz o u) → H' q = some (.frz o u)
  n : ∀ q, H' q = none → H q = none
theorem Kp.refl (A : List Addr) (H : Hp) : Kp A H H := ⟨fun _ _ _ h => h, fun _ _ h => h, fun _ _ _ h => h, fun _ h => h⟩
theorem Kp.tr {A B : List Addr} {H H1 H2 : Hp} (a : Kp A H H1) (b : Kp B H1 H2) (h : ∀ l ∈ B, l ∈ A ∨ H l = none) : Kp A H H2 :=
  ⟨fun q o hq e => b.k q o (fun m => (h q m).elim hq fun z => by rw [z] at e; cases e) (a.k q o hq e), fun q xs e => b.t q xs (a.t q xs e), fun q o u e => b.z q o u (a.z q o u e), fun q e => a.n q (b.n q e)⟩
theorem Kp.tr0 {A : List Addr} {H H1 H2 : Hp} (a : Kp A H H1) (b : Kp [] H1 H2) : Kp A H H2 := a.tr b fun _ m => nomatch m
theorem Kp.tr1 {A : List Addr} {l : Addr} {H H1 H2 : Hp} (a : Kp A H H1) (b : Kp [l] H1 H2) (h : l ∈ A ∨ H l = none) : Kp A H H2 := a.tr b fun q m => by
  have e : q = l := by simpa using m
  rw [e]; exact h
theorem Kp.there {A : List Addr} {H H' : Hp} {q : Addr} {o : HO} (a : Kp A H H') (h : H q = some o) : H' q ≠ none := fun e => by
  rw [a.n q e] at h; cases h
theorem Kp.wk {A B : List Addr} {H H' : Hp} (a : Kp A H H') (h : ∀ l ∈ A, l ∈ B) : Kp B H H' := ⟨fun q o hq e => a.k q o (fun m => hq (h q m)) e, a.t, a.z, a.n⟩
theorem Kp.new {H : Hp} {p : Addr} {o : HO} (h : H p = none) : Kp [] H (upd H p o) := by
  have k : ∀ q u, H q = some u → upd H p o q = some u := fun q u e => by rw [upd_ne (ne_of_none e h)]; exact e
  refine ⟨fun q u _ e => k q u e, fun q xs e => k q _ e, fun q _ _ e => k q _ e, fun q e => ?_⟩
  cases hq : H q with
  | none => rfl
  | some u => rw [k q u hq] at e; cases e
/-- what may be changed -/
def Mu : HO → Bool
  | .tup _ => false
  | .frz _ _ => false
  | _ => true
theorem Kp.set {H : Hp} {l : Addr} {o u : HO} (h : H l = some u) (m : Mu u = true) : Kp [l] H (upd H l o) := by
  refine ⟨fun q u' hq e => ?_, fun q xs e => ?_, fun q o' u' e => ?_, fun q e => ?_⟩
  · rw [upd_ne (by simpa using hq)]; exact e
  · have ne : q ≠ l := fun z => by
      rw [z, h] at e; cases e; cases m
    rw [upd_ne ne]; exact e
  · have ne : q ≠ l := fun z => by
      rw [z, h] at e; cases e; cases m
    rw [upd_ne ne]; exact e
  · by_cases z : q = l
    · rw [z, upd_same] at e; cases e
    · rw [upd_ne z] at e; exact e
theorem Kp.tup {K : PySem.W.Frag} {A : List Addr} {H H' : Hp} {p : Addr} {xs : List V} (a : Kp A H H') (h : SqT K H p xs) : SqT K H' p xs := by
  rcases h with (h | ⟨o, h⟩) | h
  · exact .inl (.inl (a.t _ _ h))
  · exact .inl (.inr ⟨o, a.z _ _ _ h⟩)
  · exact .inr h
theorem Kp.lst {K : PySem.W.Frag} {A : List Addr} {H H' : Hp} {p : Addr} {xs : List V} (a : Kp A H H') (np : p ∉ A) (h : SqL K H p xs) : SqL K H' p xs := by
  rcases h with (h | ⟨o, h⟩) | h
  · exact .inl (.inl (a.k _ _ np h))
  · exact .inl (.inr ⟨o, a.z _ _ _ h⟩)
  · exact .inr h
theorem Kp.lst0 {K : PySem.W.Frag} {H H' : Hp} {p : Addr} {xs : List V} (a : Kp [] H H') (h : SqL K H p xs) : SqL K H' p xs := a.lst (by simp) h
theorem Kp.at {A : List Addr} {H H' : Hp} {p : Addr} {o : HO} (a : Kp A H H') (np : p ∉ A) (h : H p = .some o) : H' p = .some o := a.k _ _ np h
theorem Kp.at0 {H H' : Hp} {p : Addr} {o : HO} (a : Kp [] H H') (h : H p = .some o) : H' p = .some o := a.k _ _ (by simp) h
theorem Kp.at1 {H H' : Hp} {b p : Addr} {o : HO} (k : Kp [b] H H') (n : p ≠ b) (h : H p = .some o) : H' p = .some o := k.at (by simpa using n) h
theorem Kp.lst1 {K : PySem.W.Frag} {H H' : Hp} {b p : Addr} {xs : List V} (k : Kp [b] H H') (n : p ≠ b) (h : SqL K H p xs) : SqL K H' p xs := k.lst (by simpa using n) h
theorem Kp.same {H H' : Hp} (a : Kp [] H H') : Same H H' := fun q o e => a.at0 e
theorem SqT.of' {K : PySem.W.Frag} {H : Hp} {p : Addr} {xs : List V} (h : H p = .some (.tup xs)) : SqT K H p xs := .inl (.inl h)
theorem SqL.of' {K : PySem.W.Frag} {H : Hp} {p : Addr} {xs : List V} (h : H p = .some (.lst xs)) : SqL K H p xs := .inl (.inl h)
/-- a list that nothing changes (the script) -/
theorem ne_lst {K : PySem.W.Frag} {H : Hp} {p l : Addr} {o u : HO} (h : H p = .some o) (h' : H l = .some u) (d : o ≠ u) : p ≠ l := ne_of h h' d

/-! ## names and slots, by syntax alone -/
inductive At : List Str → St → Str → V → Prop
  | z {x : Str} {N : List Str} {v : V} {σ : St} : At (x :: N) (some v :: σ) x v
  | s {x y : Str} {N : List Str} {o : Option V} {v : V} {σ : St} : At N σ x v → At (y :: N) (o :: σ) x v
inductive Put : List Str → St → Str → V → St → Prop
  | z {x : Str} {N : List Str} {o : Option V} {v : V} {σ : St} : Put (x :: N) (o :: σ) x v (some v :: σ)
  | s {x y : Str} {N : List Str} {o : Option V} {v : V} {σ σ' : St} : Put N σ x v σ' → Put (y :: N) (o :: σ) x v (o :: σ')
inductive Mem : List Str → Str → Prop
  | z {x : Str} {N : List Str} : Mem (x :: N) x
  | s {x y : Str} {N : List Str} : Mem N x → Mem (y :: N) x
theorem At.ix {N : List Str} {σ : St} {x : Str} {v : V} (h : At N σ x v) : ∃ i : Nat, N[i]? = some x ∧ σ[i]? = some (some v) := by
  induction h with
  | z => exact ⟨0, rfl, rfl⟩
  | s _ ih => obtain ⟨i, a, b⟩ := ih; exact ⟨i + 1, by simpa using a, by simpa using b⟩
theorem Put.ix {N : List Str} {σ σ' : St} {x : Str} {v : V} (h : Put N σ x v σ') : ∃ i : Nat, N[i]? = some x ∧ σ.set i (some v) = σ' := by
  induction h with
  | z => exact ⟨0, rfl, rfl⟩
  | s _ ih => obtain ⟨i, a, b⟩ := ih; exact ⟨i + 1, by simpa using a, by simp [b]⟩
theorem Mem.mem {N : List Str} {x : Str} (h : Mem N x) : x ∈ N := by
  induction h with
  | z => simp
  | s _ ih => simp [ih]

/-! ## a block's scope: the names that it may read, may store; what it reads of the module -/
def okC (sc : Scope) (Vs Ls G : List Str) : Bool := Vs.all (fun x => sc.names.lookup x == some .local || sc.names.lookup x == some .cell || sc.names.lookup x == some .free) && Ls.all (fun x => sc.names.lookup x == some .local || sc.names.lookup x == some .cell) && G.all (fun x => sc.names.lookup x == some .globalImplicit)
theorem kind_of_beq : ∀ (a b : Option NameKind), (a == b) = true → a = b := fun a b h => by
  cases a <;> cases b <;> first | rfl | cases h | skip
  rename_i a b; cases a <;> cases b <;> first | rfl | cases h
theorem okC.vis {sc : Scope} {Vs Ls G : List Str} (h : okC sc Vs Ls G = true) {x : Str} (hx : x ∈ Vs) : Vis sc x := by
  unfold okC at h
  simp only [Bool.and_eq_true, List.all_eq_true, Bool.or_eq_true] at h
  rcases h.1.1 x hx with (q | q) | q
  · exact .inl (kind_of_beq _ _ q)
  · exact .inr (.inl (kind_of_beq _ _ q))
  · exact .inr (.inr (kind_of_beq _ _ q))
theorem okC.loc {sc : Scope} {Vs Ls G : List Str} (h : okC sc Vs Ls G = true) {x : Str} (hx : x ∈ Ls) : Loc sc x := by
  unfold okC at h
  simp only [Bool.and_eq_true, List.all_eq_true, Bool.or_eq_true] at h
  exact (h.1.2 x hx).imp (kind_of_beq _ _) (kind_of_beq _ _)
theorem okC.gl {sc : Scope} {Vs Ls G : List Str} (h : okC sc Vs Ls G = true) {x : Str} (hx : x ∈ G) : sc.names.lookup x = some .globalImplicit := by
  unfold okC at h
  simp only [Bool.and_eq_true, List.all_eq_true, Bool.or_eq_true] at h
  exact kind_of_beq _ _ (h.2 x hx)

/-! ## the judgements: a piece of syntax from a state -/
section
inductive XE (X : Cx) (e : Expr) (σ : St) (H : Hp) (Q : VK) : Prop
  | mk (t : TE) (h : PE X e t) (q : t σ H Q)
inductive XT (X : Cx) (e : Expr) (σ : St) (H : Hp) (Q : Bool → Hp → Prop) : Prop
  | mk (t : TT) (h : PT X e t) (q : t σ H Q)
inductive XW (X : Cx) (e : Expr) (σ : St) (H : Hp) (Q : Bool → Hp → Prop) : Prop
  | mk (t : TT) (h : PW X e t) (q : t σ H Q)
inductive XA (X : Cx) (es : List Expr) (σ : St) (H : Hp) (Q : List V → Hp → Prop) : Prop
  | mk (t : TA) (h : PA X es t) (q : t σ H Q)
inductive XO (X : Cx) (e : Option Expr) (σ : St) (H : Hp) (Q : Option Int → Hp → Prop) : Prop
  | mk (t : TO) (h : PO X e t) (q : t σ H Q)
inductive XG (X : Cx) (e : Expr) (v : V) (σ : St) (H : Hp) (Q : St → Hp → Prop) : Prop
  | mk (t : TG) (h : PG X e t) (q : t v σ H Q)
inductive XGs (X : Cx) (es : List Expr) (v : List V) (σ : St) (H : Hp) (Q : St → Hp → Prop) : Prop
  | mk (t : TGs) (h : PGs X es t) (q : t v σ H Q)
inductive XI (X : Cx) (tg e : Expr) (σ : St) (H : Hp) (R : It → Hp → Prop) : Prop
  | mk (t : TI) (h : PI X tg e t) (q : t σ H R)
/-- what is wanted behind a return, a break, a continue -/
structure B3 where
  rt : VK
  bk : St → Hp → Prop
  ct : St → Hp → Prop
inductive XS (X : Cx) (s : Stmt) (nx : St → Hp → Prop) (D : B3) (σ : St) (H : Hp) : Prop
  | mk (t : TS) (h : PS X s t) (q : t ⟨nx, D.rt, D.bk, D.ct⟩ σ H)
inductive XB (X : Cx) (s : List Stmt) (nx : St → Hp → Prop) (D : B3) (σ : St) (H : Hp) : Prop
  | mk (t : TS) (h : PSs X s t) (q : t ⟨nx, D.rt, D.bk, D.ct⟩ σ H)
/-! by values -/
inductive VO (X : Cx) (f : Value → Value → Sem Value) (x y : V) (H : Hp) (Q : VK) : Prop
  | mk (r : R2) (h : OpR X f r) (q : r x y H Q)
inductive VU (X : Cx) (f : Value → Sem Value) (x : V) (H : Hp) (Q : VK) : Prop
  | mk (r : V → Hp → VK → Prop) (h : UnR X f r) (q : r x H Q)
inductive VC (X : Cx) (f : Value) (xs : List V) (H : Hp) (Q : VK) : Prop
  | mk (r : List V → Hp → VK → Prop) (h : CallR X f r) (q : r xs H Q)
inductive VX (X : Cx) (x y : V) (H : Hp) (Q : VK) : Prop
  | mk (r : R2) (h : IxR X r) (q : r x y H Q)
inductive VSl (X : Cx) (x : V) (a b : Option Int) (H : Hp) (Q : VK) : Prop
  | mk (r : V → Option Int → Option Int → Hp → VK → Prop) (h : SlR X r) (q : r x a b H Q)
inductive VM (X : Cx) (id : String) (x : V) (xs : List V) (H : Hp) (Q : VK) : Prop
  | mk (r : V → List V → Hp → VK → Prop) (h : MtR X id r) (q : r x xs H Q)
inductive VT (X : Cx) (x : V) (H : Hp) (Q : Bool → Hp → Prop) : Prop
  | mk (k : Bool) (h : TruV X.K x H k) (q : Q k H)
inductive VSt (X : Cx) (o i v : V) (H : Hp) (Q : Hp → Prop) : Prop
  | mk (r : TSet) (h : PSet X r) (q : r o i v H Q)
inductive VIp (X : Cx) (op : Operator) (x y : V) (H : Hp) (Q : VK) : Prop
  | mk (r : TIp) (h : PIp X op r) (q : r x y H Q)
theorem VT.ex {X : Cx} {x : V} {H : Hp} {Q : Bool → Hp → Prop} (h : VT X x H Q) : ∃ k, TruV X.K x H k ∧ Q k H := by
  obtain ⟨k, a, b⟩ := h
  exact ⟨k, a, b⟩
end
section
variable {X : Cx} {σ σ' : St} {H : Hp} {Q : VK} {e a b : Expr} {es : List Expr} {pos p1 p2 p3 : Pos}
theorem XE.pe : PE X e (XE X e) := ⟨fun pins s σ H Q I ⟨_, ht, q⟩ => ht.run pins s σ H Q I q⟩
theorem XT.pt : PT X e (XT X e) := ⟨fun pins s σ H Q I ⟨_, ht, q⟩ => ht.run pins s σ H Q I q⟩
theorem XW.pw : PW X e (XW X e) := ⟨fun wh pins s σ H Q I ⟨_, ht, q⟩ => ht.run wh pins s σ H Q I q⟩
theorem XA.pa : PA X es (XA X es) := ⟨fun pos pins s σ H Q I ⟨_, ht, q⟩ => ht.run pos pins s σ H Q I q⟩
theorem XO.po {e : Option Expr} : PO X e (XO X e) := ⟨fun pins s σ H Q I ⟨_, ht, q⟩ => ht.run pins s σ H Q I q⟩
theorem XG.pg : PG X e (XG X e) := ⟨fun pins s σ H v u Q I r ⟨_, ht, q⟩ => ht.run pins s σ H v u Q I r q⟩
theorem XGs.pgs : PGs X es (XGs X es) := ⟨fun pins s σ H v u Q I r ⟨_, ht, q⟩ => ht.run pins s σ H v u Q I r q⟩
theorem XI.pi {tg : Expr} : PI X tg e (XI X tg e) := ⟨fun pins s σ H R I ⟨_, ht, q⟩ => ht.run pins s σ H R I q⟩
/-- a statement's reading with the wish behind it fixed apart -/
theorem XS.ps {s : Stmt} : PS X s (fun D σ H => XS X s D.nx ⟨D.rt, D.bk, D.ct⟩ σ H) := ⟨fun pins s σ H D I ⟨_, ht, q⟩ => ht.run pins s σ H D I q⟩
theorem XB.ps {s : List Stmt} : PSs X s (fun D σ H => XB X s D.nx ⟨D.rt, D.bk, D.ct⟩ σ H) := ⟨fun pins s σ H D I ⟨_, ht, q⟩ => ht.run pins s σ H D I q⟩
theorem VO.ok {f : Value → Value → Sem Value} : OpR X f (VO X f) := fun pins s σ H x y v u Q I r1 r2 ⟨_, hr, q⟩ => hr pins s σ H x y v u Q I r1 r2 q
theorem VU.ok {f : Value → Sem Value} : UnR X f (VU X f) := fun pins s σ H x v Q I r1 ⟨_, hr, q⟩ => hr pins s σ H x v Q I r1 q
theorem VC.ok {f : Value} : CallR X f (VC X f) := fun pins s σ H x v Q I r1 ⟨_, hr, q⟩ => hr pins s σ H x v Q I r1 q
theorem VX.ok : IxR X (VX X) := fun v1 v2 pins s σ H x y v u Q I r1 r2 ⟨_, hr, q⟩ hs => hr v1 v2 pins s σ H x y v u Q I r1 r2 q hs
theorem VM.ok {id : String} : MtR X id (VM X id) := fun pins s σ H x xs v us Q I r1 r2 ⟨_, hr, q⟩ => hr pins s σ H x xs v us Q I r1 r2 q
theorem VSl.ok : SlR X (VSl X) := by
  intro pins s σ H x v vl vu lo hi sl Q I rx hs pl pu ⟨_, hr, q⟩
  exact hr pins s σ H x v vl vu lo hi sl Q I rx hs pl pu q
theorem VSt.ok : PSet X (VSt X) := fun pins s σ H o i v ov iv u Q I r1 r2 r3 ⟨_, hr, q⟩ => hr pins s σ H o i v ov iv u Q I r1 r2 r3 q
theorem VIp.ok {op : Operator} : PIp X op (VIp X op) := fun pins s σ H x y v u Q I r1 r2 ⟨_, hr, q⟩ => hr pins s σ H x y v u Q I r1 r2 q


/-! ## more is wanted than asked -/
theorem XE.mono {Q' : VK} (h : XE X e σ H Q) (m : ∀ v H', Q v H' → Q' v H') : XE X e σ H Q' := by
  obtain ⟨t, ht, q⟩ := h
  exact ⟨fun σ H R => ∃ R', t σ H R' ∧ ∀ v H', R' v H' → R v H', ⟨fun pins s σ H R I ⟨R', q, m⟩ => thn (ht.run pins s σ H R' I q) fun v s ⟨x, H', I', r, z⟩ => ⟨x, H', I', r, m _ _ z⟩⟩, Q, q, m⟩
theorem XT.mono {Q Q' : Bool → Hp → Prop} (h : XT X e σ H Q) (m : ∀ v H', Q v H' → Q' v H') : XT X e σ H Q' := by
  obtain ⟨t, ht, q⟩ := h
  exact ⟨fun σ H R => ∃ R', t σ H R' ∧ ∀ v H', R' v H' → R v H', ⟨fun pins s σ H R I ⟨R', q, m⟩ => thn (ht.run pins s σ H R' I q) fun v s ⟨H', I', z⟩ => ⟨H', I', m _ _ z⟩⟩, Q, q, m⟩
theorem XW.mono {Q Q' : Bool → Hp → Prop} (h : XW X e σ H Q) (m : ∀ v H', Q v H' → Q' v H') : XW X e σ H Q' := by
  obtain ⟨t, ht, q⟩ := h
  exact ⟨fun σ H R => ∃ R', t σ H R' ∧ ∀ v H', R' v H' → R v H', ⟨fun wh pins s σ H R I ⟨R', q, m⟩ => thn (ht.run wh pins s σ H R' I q) fun v s ⟨H', I', z⟩ => ⟨H', I', m _ _ z⟩⟩, Q, q, m⟩
theorem XA.mono {Q Q' : List V → Hp → Prop} (h : XA X es σ H Q) (m : ∀ v H', Q v H' → Q' v H') : XA X es σ H Q' := by
  obtain ⟨t, ht, q⟩ := h
  exact ⟨fun σ H R => ∃ R', t σ H R' ∧ ∀ v H', R' v H' → R v H', ⟨fun pos pins s σ H R I ⟨R', q, m⟩ => thn (ht.run pos pins s σ H R' I q) fun v s ⟨x, H', I', r, z⟩ => ⟨x, H', I', r, m _ _ z⟩⟩, Q, q, m⟩
theorem VO.mono {f : Value → Value → Sem Value} {x y : V} {Q' : VK} (h : VO X f x y H Q) (m : ∀ v H', Q v H' → Q' v H') : VO X f x y H Q' := by
  obtain ⟨t, ht, q⟩ := h
  exact ⟨fun x y H R => ∃ R', t x y H R' ∧ ∀ v H', R' v H' → R v H', fun pins s σ H x y v u R I rx ry ⟨R', q, m⟩ => thn (ht pins s σ H x y v u R' I rx ry q) fun v s ⟨x, H', I', r, z⟩ => ⟨x, H', I', r, m _ _ z⟩, Q, q, m⟩
theorem VC.mono {f : Value} {xs : List V} {Q' : VK} (h : VC X f xs H Q) (m : ∀ v H', Q v H' → Q' v H') : VC X f xs H Q' := by
  obtain ⟨t, ht, q⟩ := h
  exact ⟨fun xs H R => ∃ R', t xs H R' ∧ ∀ v H', R' v H' → R v H', fun pins s σ H x v R I rx ⟨R', q, m⟩ => thn (ht pins s σ H x v R' I rx q) fun v s ⟨x, H', I', r, z⟩ => ⟨x, H', I', r, m _ _ z⟩, Q, q, m⟩

/-! ## the context of a body -/
structure Ctx (X : Cx) (sc : Scope) (N Vs Ls G : List Str) (k : Nat) : Prop where
  hN : X.N = N
  nd : N.Nodup
  esc : X.env.scope = sc
  ok : okC sc Vs Ls G = true
  calm : X.calm = true
  fn : ∀ x ∈ Ls, X.fn x = true
  po : PassesOwn (model X.prog X.w) X.A X.env X.xe
  knd : sc.kind = .function
  room : Room k X.A
variable {N Vs Ls G : List Str} {k : Nat} {D : B3} {nx : St → Hp → Prop} {K : PySem.W.Frag} {sc : Scope}
theorem Ctx.vis (C : Ctx X sc N Vs Ls G k) {x : Str} (h : Mem Vs x) : Vis X.env.scope x := by rw [C.esc]; exact okC.vis C.ok h.mem
theorem Ctx.loc (C : Ctx X sc N Vs Ls G k) {x : Str} (h : Mem Ls x) : Loc X.env.scope x := by rw [C.esc]; exact okC.loc C.ok h.mem
theorem Ctx.gl (C : Ctx X sc N Vs Ls G k) {x : Str} (h : Mem G x) : Gl X x := by
  show X.env.scope.names.lookup x = _
  rw [C.esc]; exact okC.gl C.ok h.mem
theorem Ctx.hu (C : Ctx X sc N Vs Ls G k) : X.A.units + 1 < cLine := hu_of C.room

/-! ## expressions -/
/-- a name: hd, hcd by decide -/
theorem xe_var {x : Str} {v : V} (C : Ctx X sc N Vs Ls G k) (hv : Mem Vs x) (h : At N σ x v) (q : Q v H)
    (hd : (x == ("__debug__" : Str)) = false := by decide) (hcd : (x == ("__classdict__" : Str)) = false := by decide) : XE X (.Name x pos) σ H Q := by
  obtain ⟨i, h1, h2⟩ := h.ix
  exact ⟨_, pe_var (i := i) (by rw [C.hN]; exact h1) (C.vis hv) hd hcd, v, h2, q⟩
theorem xe_int {i : Int} {j : Nat} (q : Q (.int i) H) : XE X (.Constant (.int i) j pos) σ H Q := ⟨_, pe_int, q⟩
theorem xe_bl {i : Bool} {j : Nat} (q : Q (.bl i) H) : XE X (.Constant (.bool i) j pos) σ H Q := ⟨_, pe_bl, q⟩
theorem xe_non {j : Nat} (q : Q .non H) : XE X (.Constant .none j pos) σ H Q := ⟨_, pe_non, q⟩
theorem xe_str {i : Str} {j : Nat} (q : Q (.str i) H) : XE X (.Constant (.str i) j pos) σ H Q := ⟨_, pe_str, q⟩
theorem xe_glob {x : Str} {v : V} {u : Value} (C : Ctx X sc N Vs Ls G k) (hg : Mem G x) (hm : X.mg x = some u) (r : RelV v u) (q : Q v H) (hd : (x == ("__debug__" : Str)) = false := by decide) : XE X (.Name x pos) σ H Q := ⟨_, pe_glob (C.gl hg) hm r hd, q⟩
theorem xe_bin {op : Operator} (h : XE X a σ H fun x H1 => XE X b σ H1 fun y H2 => VO X (binaryOp op) x y H2 Q) : XE X (.BinOp a op b pos) σ H Q := ⟨_, pe_op VO.ok XE.pe XE.pe, h⟩
theorem xe_un {op : UnaryOp} (h : XE X a σ H fun x H1 => VU X (unaryOp op) x H1 Q) : XE X (.UnaryOp op a pos) σ H Q := ⟨_, pe_un VU.ok XE.pe, h⟩
theorem xe_not (h : XE X a σ H fun v H1 => VT X v H1 fun c H2 => Q (.bl (!c)) H2) : XE X (.UnaryOp .Not a pos) σ H Q := ⟨_, pe_notT XE.pe, h.mono fun _ _ z => z.ex⟩
theorem xe_and {rest : List Expr} (h : XE X a σ H fun v H1 => VT X v H1 fun k H1 => if k = true then XE X (.BoolOp .And (b :: rest) pos) σ H1 Q else Q v H1) : XE X (.BoolOp .And (a :: b :: rest) pos) σ H Q := ⟨_, pe_andT XE.pe XE.pe, h.mono fun _ _ z => z.ex⟩
theorem xe_or {rest : List Expr} (h : XE X a σ H fun v H1 => VT X v H1 fun k H1 => if k = true then Q v H1 else XE X (.BoolOp .Or (b :: rest) pos) σ H1 Q) : XE X (.BoolOp .Or (a :: b :: rest) pos) σ H Q := ⟨_, pe_orT XE.pe XE.pe, h.mono fun _ _ z => z.ex⟩
theorem xe_one {op : BoolOp} (h : XE X a σ H Q) : XE X (.BoolOp op [a] pos) σ H Q := ⟨_, pe_one XE.pe, h⟩
theorem xe_cmp {op : CmpOp} (h : XE X a σ H fun x H1 => XE X b σ H1 fun y H2 => VO X (compareOp op) x y H2 Q) (hm : behindInMarks op b = false := by rfl) : XE X (.Compare a [op] [b] pos) σ H Q := ⟨_, pe_cmpR VO.ok XE.pe XE.pe hm, h⟩
theorem xe_chain {op op' : CmpOp} {c : Expr} (h : XE X a σ H fun x H1 => XE X b σ H1 fun y H2 => VO X (compareOp op) x y H2 fun z H3 => ∃ k, z = .bl k ∧
    if k = true then XE X c σ H3 (fun y' H4 => VO X (compareOp op') y y' H4 Q) else Q (.bl false) H3) (hm : lastMarks [op, op'] [b, c] = false := by with_unfolding_all rfl) : XE X (.Compare a [op, op'] [b, c] pos) σ H Q := ⟨_, pe_chain VO.ok VO.ok XE.pe XE.pe XE.pe hm, h⟩
theorem xe_ifExp {c : Expr} (h : XT X c σ H fun k H1 => if k = true then XE X a σ H1 Q else XE X b σ H1 Q) : XE X (.IfExp c a b pos) σ H Q := ⟨_, pe_ifExp XT.pt XE.pe XE.pe, h⟩
theorem xe_ix (h : XE X a σ H fun x H1 => XE X b σ H1 fun y H2 => VX X x y H2 Q) (hs : PlainIx b := by exact fun _ _ => rfl) : XE X (.Subscript a b pos) σ H Q := ⟨_, pe_ix VX.ok XE.pe XE.pe hs, h⟩
theorem xe_sl {lo hi : Option Expr} (h : XE X a σ H fun x H1 => XO X lo σ H1 fun l H2 => XO X hi σ H2 fun u H3 => VSl X x l u H3 Q) : XE X (.Subscript a (.Slice lo hi none p2) pos) σ H Q := ⟨_, pe_slice VSl.ok XE.pe XO.po XO.po, h⟩
theorem xo_none {R : Option Int → Hp → Prop} (h : R none H) : XO X none σ H R := ⟨_, po_none, h⟩
theorem xo_some {R : Option Int → Hp → Prop} (h : XE X a σ H fun x H1 => ∃ i, x = .int i ∧ R (some i) H1) : XO X (some a) σ H R := ⟨_, po_some XE.pe, h⟩
theorem xa_nil {R : List V → Hp → Prop} (h : R [] H) : XA X [] σ H R := ⟨_, pa_nil, h⟩
theorem xa_cons {R : List V → Hp → Prop} (h : XE X a σ H fun x H1 => XA X es σ H1 fun xs H2 => R (x :: xs) H2) (hs : starEach (a :: es) X.env = (false, eval a X.env) :: starEach es X.env := by rfl) : XA X (a :: es) σ H R := ⟨_, pa_cons XE.pe XA.pa hs, h⟩
theorem xa_star {R : List V → Hp → Prop} (h : XE X a σ H fun x H1 => ∃ p xs, x = .ref p ∧ (SqT X.K H1 p xs ∨ SqL X.K H1 p xs) ∧ XA X es σ H1 fun ys H2 => R (xs ++ ys) H2) (hs : starEach (.Starred a p2 :: es) X.env = (true, eval a X.env) :: starEach es X.env := by rfl) : XA X (.Starred a p2 :: es) σ H R := ⟨_, StX.pa_star XE.pe XA.pa hs, h⟩

/-- a new object -/
theorem new_ {H : Hp} {o : HO} {R : Addr → Hp → Prop} (h : ∀ p H', Kp [] H H' → H p = none → H' p = some o → R p H') (p : Addr) (hp : H p = none) : R p (upd H p o) := h p _ (Kp.new hp) hp upd_same
/-- a new tuple, wanted by what it holds alone -/
theorem newT {K : PySem.W.Frag} {H : Hp} {xs : List V} {R : V → Hp → Prop} (h : ∀ p H', Kp [] H H' → SqT K H' p xs → R (.ref p) H') (p : Addr) (hp : H p = none) : R (.ref p) (upd H p (.tup xs)) := h p _ (Kp.new hp) (.inl (.inl upd_same))
theorem xe_tup {j : Nat} (h : XA X es σ H fun vs H1 => vs.length ≤ sizeLine ∧ ∀ p H', Kp [] H1 H' → SqT X.K H' p vs → H' p = some (.tup vs) → Q (.ref p) H') : XE X (.Tuple es j pos) σ H Q :=
  ⟨_, pe_tup XA.pa, h.mono fun _ _ ⟨a, b⟩ => ⟨a, fun p hp => b p _ (Kp.new hp) (.inl (.inl upd_same)) upd_same⟩⟩
theorem xe_lst (h : XA X es σ H fun vs H1 => vs.length ≤ sizeLine ∧ ∀ p H', Kp [] H1 H' → H1 p = none → H' p = some (.lst vs) → Q (.ref p) H') : XE X (.List es pos) σ H Q :=
  ⟨_, pe_lst XA.pa, h.mono fun _ _ ⟨a, b⟩ => ⟨a, new_ b⟩⟩

/-! ## tests -/
variable {R : Bool → Hp → Prop}
theorem xt_val (h : XE X e σ H fun v H1 => VT X v H1 R) (he : ∀ whole, isTrue e X.env whole = (do let v ← whole; standAt e.pos; holding [v] (truthy v)) := by intro _; rfl) : XT X e σ H R := ⟨_, pt_truth XE.pe he, h.mono fun _ _ z => z.ex⟩
theorem xt_cmp {op : CmpOp} (h : XE X a σ H fun x H1 => XE X b σ H1 fun y H2 => VO X (compareOp op) x y H2 fun z H3 => ∃ k, z = .bl k ∧ R k H3) (hm : behindInMarks op b = false := by rfl) : XT X (.Compare a [op] [b] pos) σ H R := ⟨_, pt_cmpR VO.ok XE.pe XE.pe hm, h⟩
theorem xt_chain {op op' : CmpOp} {c : Expr} (h : XE X a σ H fun x H1 => XE X b σ H1 fun y H2 => VO X (compareOp op) x y H2 fun z H3 => ∃ k, z = .bl k ∧
    if k = true then XE X c σ H3 (fun y' H4 => VO X (compareOp op') y y' H4 fun z' H5 => ∃ k', z' = .bl k' ∧ R k' H5) else R false H3) (hm : lastMarks [op, op'] [b, c] = false := by with_unfolding_all rfl) : XT X (.Compare a [op, op'] [b, c] pos) σ H R := by
  refine ⟨_, pt_chain VO.ok VO.ok XE.pe XE.pe XE.pe hm, XE.mono h fun x H1 h => XE.mono h fun y H2 h => VO.mono h fun z H3 ⟨k, e, h⟩ => ⟨k, e, ?_⟩⟩
  cases k with
  | true => exact h
  | false => exact ⟨false, rfl, h⟩
theorem xt_not (h : XT X a σ H fun c H1 => R (!c) H1) : XT X (.UnaryOp .Not a pos) σ H R := ⟨_, pt_not XT.pt, h⟩
theorem xt_bool {op : BoolOp} {es : List Expr} (h : XW X (.BoolOp op es pos) σ H R) : XT X (.BoolOp op es pos) σ H R := ⟨_, XW.pw.pt, h⟩
theorem xw_and {rest : List Expr} (h : XT X a σ H fun c H1 => if c = true then XW X (.BoolOp .And (b :: rest) pos) σ H1 R else R false H1) : XW X (.BoolOp .And (a :: b :: rest) pos) σ H R := ⟨_, pw_and XT.pt XW.pw, h⟩
theorem xw_and1 (h : XT X a σ H R) : XW X (.BoolOp .And [a] pos) σ H R := ⟨_, pw_and1 XT.pt, h⟩
theorem xw_or {rest : List Expr} (h : XT X a σ H fun c H1 => if c = true then R true H1 else XW X (.BoolOp .Or (b :: rest) pos) σ H1 R) : XW X (.BoolOp .Or (a :: b :: rest) pos) σ H R := ⟨_, pw_or XT.pt XW.pw, h⟩
theorem xw_or1 (h : XT X a σ H R) : XW X (.BoolOp .Or [a] pos) σ H R := ⟨_, pw_or1 XT.pt, h⟩

/-! ## values: operators, tests, calls -/
variable {i j : Int} {p q : Addr} {xs ys : List V} {v : V}
theorem vo_add (h : Q (.int (i + j)) H) : VO X (binaryOp .Add) (.int i) (.int j) H Q := ⟨_, op_add, i, j, rfl, rfl, h⟩
theorem vo_sub (h : Q (.int (i - j)) H) : VO X (binaryOp .Sub) (.int i) (.int j) H Q := ⟨_, op_sub, i, j, rfl, rfl, h⟩
theorem vo_mul (c : CMul i j) (h : Q (.int (i * j)) H) : VO X (binaryOp .Mult) (.int i) (.int j) H Q := ⟨_, op_mul, i, j, rfl, rfl, c, h⟩
theorem vo_mulX (c : CMulX i j) (h : Q (.int (i * j)) H) : VO X (binaryOp .Mult) (.int i) (.int j) H Q := ⟨_, op_mulX, i, j, rfl, rfl, c, h⟩
theorem vo_fdiv (c : CDiv i j) (h : Q (.int (i / j)) H) : VO X (binaryOp .FloorDiv) (.int i) (.int j) H Q := ⟨_, op_fdiv, i, j, rfl, rfl, c, h⟩
theorem vo_mod (c : 0 < j) (h : Q (.int (i % j)) H) : VO X (binaryOp .Mod) (.int i) (.int j) H Q := ⟨_, op_mod, i, j, rfl, rfl, c, h⟩
theorem vo_pow (c : CPow i j) (h : Q (.int (i ^ j.toNat)) H) : VO X (binaryOp .Pow) (.int i) (.int j) H Q := ⟨_, op_pow, i, j, rfl, rfl, c, h⟩
theorem vo_shl (c : CPow i j) (h : Q (.int (i * 2 ^ j.toNat)) H) : VO X (binaryOp .LShift) (.int i) (.int j) H Q := ⟨_, op_shl, i, j, rfl, rfl, c, h⟩
theorem vo_and (h : Q (.int (Builtin.bitAnd i j)) H) : VO X (binaryOp .BitAnd) (.int i) (.int j) H Q := ⟨_, op_and, i, j, rfl, rfl, h⟩
theorem vo_lt (h : Q (.bl (decide (i < j))) H) : VO X (compareOp .Lt) (.int i) (.int j) H Q := ⟨_, op_lt, i, j, rfl, rfl, h⟩
theorem vo_le (h : Q (.bl (decide (i ≤ j))) H) : VO X (compareOp .LtE) (.int i) (.int j) H Q := ⟨_, op_le, i, j, rfl, rfl, h⟩
theorem vo_gt (h : Q (.bl (decide (j < i))) H) : VO X (compareOp .Gt) (.int i) (.int j) H Q := ⟨_, op_gt, i, j, rfl, rfl, h⟩
theorem vo_ge (h : Q (.bl (decide (j ≤ i))) H) : VO X (compareOp .GtE) (.int i) (.int j) H Q := ⟨_, op_ge, i, j, rfl, rfl, h⟩
theorem vo_eq (h : Q (.bl (decide (i = j))) H) : VO X (compareOp .Eq) (.int i) (.int j) H Q := by
  refine ⟨_, op_eq, rfl, ?_⟩
  have e : decide (V.int i = V.int j) = decide (i = j) := by by_cases e : i = j <;> simp [e]
  rw [e]; exact h
theorem vo_ne (h : Q (.bl (!decide (i = j))) H) : VO X (compareOp .NotEq) (.int i) (.int j) H Q := by
  refine ⟨_, op_ne, rfl, ?_⟩
  have e : decide (V.int i = V.int j) = decide (i = j) := by by_cases e : i = j <;> simp [e]
  rw [e]; exact h
theorem vo_eqB {i j : Bool} (h : Q (.bl (i == j)) H) : VO X (compareOp .Eq) (.bl i) (.bl j) H Q := ⟨_, op_eq, rfl, by rw [dec_bl]; exact h⟩
theorem vo_neB {i j : Bool} (h : Q (.bl (!(i == j))) H) : VO X (compareOp .NotEq) (.bl i) (.bl j) H Q := ⟨_, op_ne, rfl, by rw [dec_bl]; exact h⟩
theorem vo_isB {i j : Bool} (h : Q (.bl (decide (i = j))) H) : VO X (compareOp .Is) (.bl i) (.bl j) H Q := ⟨_, op_isBl, i, j, rfl, rfl, h⟩
theorem vo_notB {i j : Bool} (h : Q (.bl (!decide (i = j))) H) : VO X (compareOp .IsNot) (.bl i) (.bl j) H Q := ⟨_, op_notBl, i, j, rfl, rfl, h⟩
theorem vo_isN (h : Q (.bl (decide (v = .non))) H) : VO X (compareOp .Is) v .non H Q := ⟨_, op_isN, rfl, h⟩
theorem vo_notN (h : Q (.bl (!decide (v = .non))) H) : VO X (compareOp .IsNot) v .non H Q := ⟨_, op_notN, rfl, h⟩
theorem vo_catT (hx : SqT X.K H p xs) (hy : SqT X.K H q ys) (hz : xs.length + ys.length ≤ sizeLine) (h : ∀ r H', Kp [] H H' → SqT X.K H' r (xs ++ ys) → Q (.ref r) H') : VO X (binaryOp .Add) (.ref p) (.ref q) H Q := by
  refine ⟨_, op_catA, p, q, xs, ys, rfl, rfl, hx, hy, hz, fun e => ?_, fun _ e => ?_, fun _ _ r hr => h r _ (Kp.new hr) (.inl (.inl upd_same))⟩
  · subst e; exact h q H (Kp.refl _ _) hy
  · subst e; exact h p H (Kp.refl _ _) (by simpa using hx)
theorem vo_catL (hx : H p = some (.lst xs)) (hy : H q = some (.lst ys)) (hz : xs.length + ys.length ≤ sizeLine) (h : ∀ r H', Kp [] H H' → H r = none → H' r = some (.lst (xs ++ ys)) → Q (.ref r) H') : VO X (binaryOp .Add) (.ref p) (.ref q) H Q :=
  ⟨_, op_cat, p, q, xs, ys, rfl, rfl, hx, hy, hz, new_ h⟩
theorem vu_neg (h : Q (.int (-i)) H) : VU X (unaryOp .USub) (.int i) H Q := ⟨_, un_neg, i, rfl, h⟩
theorem vx_tup (hx : SqT X.K H p xs) (hi : atI xs i = some v) (h : Q v H) : VX X (.ref p) (.int i) H Q := ⟨_, ix_tup, p, xs, i, v, rfl, rfl, hx, hi, h⟩
theorem vx_lst (hx : SqL X.K H p xs) (hi : atI xs i = some v) (h : Q v H) : VX X (.ref p) (.int i) H Q := ⟨_, ix_list, p, xs, i, v, rfl, rfl, hx, hi, h⟩
theorem vsl_tup {lo hi : Option Int} (hx : SqT X.K H p xs) (h : ∀ r H', Kp [] H H' → SqT X.K H' r (cutV xs lo hi) → Q (.ref r) H') : VSl X (.ref p) lo hi H Q := by
  refine ⟨_, sl_tupA, p, xs, rfl, hx, fun e => ?_, fun _ r hr => h r _ (Kp.new hr) (.inl (.inl upd_same))⟩
  refine h p H (Kp.refl _ _) ?_
  have e2 : cutV xs lo hi = xs := by unfold cutV; rw [e.1, e.2]; simp
  rw [e2]; exact hx
theorem vsl_lst {lo hi : Option Int} (hx : SqL X.K H p xs) (h : ∀ r H', Kp [] H H' → H r = none → H' r = some (.lst (cutV xs lo hi)) → Q (.ref r) H') : VSl X (.ref p) lo hi H Q := ⟨_, sl_list, p, xs, rfl, hx, new_ h⟩
theorem vt_bl {c : Bool} (h : R c H) : VT X (.bl c) H R := ⟨c, rfl, h⟩
theorem vt_int (h : R (i != 0) H) : VT X (.int i) H R := ⟨_, rfl, h⟩
theorem vt_tup (hx : SqT X.K H p xs) (h : R (!xs.isEmpty) H) : VT X (.ref p) H R := ⟨_, .inr (.inl ⟨xs, hx, rfl⟩), h⟩
theorem vt_lst (hx : SqL X.K H p xs) (h : R (!xs.isEmpty) H) : VT X (.ref p) H R := ⟨_, .inl ⟨xs, hx, rfl⟩, h⟩
theorem vc_lenT (hx : SqT X.K H p xs) (h : Q (.int xs.length) H) : VC X (.builtin "len") [.ref p] H Q := ⟨_, call_len_seq, p, xs, rfl, .inr hx, h⟩
theorem vc_lenL (hx : SqL X.K H p xs) (h : Q (.int xs.length) H) : VC X (.builtin "len") [.ref p] H Q := ⟨_, call_len_seq, p, xs, rfl, .inl hx, h⟩
theorem vc_int (h : Q (.int i) H) : VC X (.type "int") [.int i] H Q := ⟨_, call_int1, .inl ⟨i, rfl, h⟩⟩
theorem vc_intB {c : Bool} (h : Q (.int (if c then 1 else 0)) H) : VC X (.type "int") [.bl c] H Q := ⟨_, call_int1, .inr ⟨c, rfl, h⟩⟩
theorem vc_abs (h : Q (.int (if i < 0 then -i else i)) H) : VC X (.builtin "abs") [.int i] H Q := ⟨_, call_abs, i, rfl, h⟩
theorem vc_listT (hx : SqT X.K H p xs) (h : ∀ r H', Kp [] H H' → H r = none → H' r = some (.lst xs) → Q (.ref r) H') : VC X (.type "list") [.ref p] H Q := ⟨_, call_list_of, p, xs, rfl, .inr hx, new_ h⟩
theorem vc_listL (hx : SqL X.K H p xs) (h : ∀ r H', Kp [] H H' → H r = none → H' r = some (.lst xs) → Q (.ref r) H') : VC X (.type "list") [.ref p] H Q := ⟨_, call_list_of, p, xs, rfl, .inl hx, new_ h⟩
theorem vc_tupL (hx : SqL X.K H p xs) (h : ∀ r H', Kp [] H H' → SqT X.K H' r xs → Q (.ref r) H') : VC X (.type "tuple") [.ref p] H Q := ⟨_, call_tuple_of, p, xs, rfl, .inl ⟨hx, newT h⟩⟩
theorem vc_isi {x : V} {t c : String} {u : Bool} (ht : TyX X.K H x (.type t)) (hk : kitB t c = some u) (h : Q (.bl u) H) : VC X (.builtin "isinstance") [x, .ty c] H Q := ⟨_, call_isi, x, .ty c, .type t, .type c, u, rfl, .ty c, ht, kit_ty hk, h⟩

/-! ## calls -/
/-- a def of the module and its promise -/
structure DefOk (P : Program) (w : World) (K : PySem.W.Frag) (mg : Str → Option Value) (base : Heap) (x : Str) (ps : List Str) (k : Nat) (sp : Sp) : Prop where
  ex : ∃ f fd, FnOk P w K mg base CX0 k f fd ps sp ∧ mg x = some (.ref f) ∧ PySem.W.keepIn K (.ref f) = true ∧ Binds K fd ps []
variable {x : Str} {ps : List Str} {k' : Nat} {sp : Sp}
theorem xe_call (C : Ctx X sc N Vs Ls G k) (F : DefOk X.prog X.w X.K X.mg X.base x ps k' sp) (hg : Mem G x) (hk : k' ≤ k) (h : XA X (a :: es) σ H fun vs H1 => sp vs H1 Q E0)
    (hdb : (x == ("__debug__" : Str)) = false := by decide) (he : starEach (a :: es) X.env = (false, eval a X.env) :: starEach es X.env := by rfl) (hpl : (backTo pos (starEach es X.env)).any (·.1) = false := by rfl) : XE X (.Call (.Name x p1) (a :: es) [] pos) σ H Q := by
  obtain ⟨f, fd, F, hm, kp, b⟩ := F.ex
  exact ⟨_, pe_call F (C.room.mono hk) (C.gl hg) hm kp b .nil pass0 XA.pa hdb he hpl, by
    refine XA.mono h fun vs H1 q => ?_
    rw [List.append_nil]; exact q⟩
theorem xe_callB {id : String} (C : Ctx X sc N Vs Ls G k) (hg : Mem G x) (hm : X.mg x = none) (hv : bootBuiltins x = some (.builtin id)) (h : XA X (a :: es) σ H fun vs H1 => VC X (.builtin id) vs H1 Q)
    (hn : x ≠ "__name__" := by decide) (hdb : (x == ("__debug__" : Str)) = false := by decide) (he : starEach (a :: es) X.env = (false, eval a X.env) :: starEach es X.env := by rfl) (hpl : (backTo pos (starEach es X.env)).any (·.1) = false := by rfl) :
    XE X (.Call (.Name x p1) (a :: es) [] pos) σ H Q := ⟨_, pe_callB VC.ok (C.gl hg) hm hv XA.pa hn hdb he hpl, h⟩
theorem xe_callTy {id : String} (C : Ctx X sc N Vs Ls G k) (hg : Mem G x) (hm : X.mg x = none) (hv : bootBuiltins x = some (.type id)) (h : XA X (a :: es) σ H fun vs H1 => VC X (.type id) vs H1 Q)
    (hn : x ≠ "__name__" := by decide) (hdb : (x == ("__debug__" : Str)) = false := by decide) (he : starEach (a :: es) X.env = (false, eval a X.env) :: starEach es X.env := by rfl) (hpl : (backTo pos (starEach es X.env)).any (·.1) = false := by rfl) :
    XE X (.Call (.Name x p1) (a :: es) [] pos) σ H Q := ⟨_, pe_callTy VC.ok (C.gl hg) hm hv XA.pa hn hdb he hpl, h⟩
/-- a built-in type's name as a value -/
theorem xe_ty {id : String} (C : Ctx X sc N Vs Ls G k) (hg : Mem G x) (hm : X.mg x = none) (hv : bootBuiltins x = some (.type id)) (h : Q (.ty id) H) (hn : x ≠ "__name__" := by decide) (hdb : (x == ("__debug__" : Str)) = false := by decide) : XE X (.Name x pos) σ H Q :=
  ⟨_, pe_bltn (v := .ty id) (C.gl hg) hm hv rfl hn hdb, h⟩
/-- n.bit_length() -/
theorem xe_bits {apos : Pos} (h : XE X a σ H fun y H1 => ∃ i, y = .int i ∧ Q (.int (Builtin.Int.intBits i : Nat)) H1) (hbase : attributeBase a "bit_length" X.env (eval a X.env) = eval a X.env := by rfl) (hline : (apos.endLine == pos.line) = true := by rfl) :
    XE X (.Call (.Attribute a "bit_length" apos) [] [] pos) σ H Q := ⟨_, pe_bits XE.pe hbase hline, h⟩
/-- o.f -/
theorem xe_fld {f : Str} (h : XE X a σ H fun y H1 => ∃ p C dx fs v, y = .ref p ∧ H1 p = some (.ins C dx fs) ∧ Cls X.K C ∧ NoAttr X.K C f ∧ fs.lookup f = some v ∧ Q v H1) (hb : attributeBase a f X.env (eval a X.env) = eval a X.env := by rfl) : XE X (.Attribute a f pos) σ H Q :=
  ⟨_, pe_fld XE.pe hb, h⟩
/-- xs.append(y) -/
theorem xe_append {apos : Pos} (h : XE X a σ H fun y H1 => ∃ l xs, y = .ref l ∧ H1 l = some (.lst xs) ∧ XE X b σ H1 fun z H2 => H2 l = some (.lst xs) ∧ xs.length < sizeLine ∧ ∀ H', Kp [l] H2 H' → H' l = some (.lst (xs ++ [z])) → Q .non H')
    (hbase : attributeBase a "append" X.env (eval a X.env) = eval a X.env := by rfl) (hs : starEach (b :: []) X.env = (false, eval b X.env) :: starEach [] X.env := by rfl) (hline : (apos.endLine == pos.line) = true := by rfl)
    (hfew : ((backTo pos (starEach [b] X.env)).all (fun x => !x.1) && (backToKw pos (keywordEach [] X.env)).all (fun x => x.1.isSome) && decide (([b] : List Expr).length + ([] : List Keyword).length + (if ([] : List Keyword).isEmpty then 0 else 1) < 30)) = true := by rfl)
    : XE X (.Call (.Attribute a "append" apos) [b] [] pos) σ H Q := by
  refine ⟨_, pe_bm PySem.F.plainAttrs_list PySem.F.slot_list_append PySem.F.type_list_append mt_append XE.pe XA.pa hbase hfew hline hs, ?_⟩
  refine XE.mono h fun y H1 ⟨l, xs, e, hl, q⟩ => ?_
  subst e
  refine ⟨.inl ⟨rfl, xs, .inl (.inl hl)⟩, xa_cons (hs := hs) (XE.mono q fun z H2 ⟨hl2, hz, q⟩ => xa_nil ?_)⟩
  exact ⟨l, xs, z, rfl, rfl, hl2, hz, q _ (Kp.set hl2 rfl) upd_same⟩

/-! ## statements -/
variable {s : Stmt} {sts sts' : List Stmt}
theorem xb_nil (h : nx σ H) : XB X [] nx D σ H := ⟨_, pss_nil, h⟩
theorem xb_cons (h : XS X s (fun σ' H' => XB X sts nx D σ' H') D σ H) : XB X (s :: sts) nx D σ H := ⟨_, pss_cons XS.ps XB.ps, h⟩
theorem xs_pass (h : nx σ H) : XS X (.Pass pos) nx D σ H := ⟨_, ps_pass, h⟩
theorem xs_break (h : D.bk σ H) : XS X (.Break pos) nx D σ H := ⟨_, ps_break, h⟩
theorem xs_cont (h : D.ct σ H) : XS X (.Continue pos) nx D σ H := ⟨_, ps_continue, h⟩
theorem xs_expr (h : XE X e σ H fun _ H1 => nx σ H1) (hs : swapsWith e none pos.line X.env = pure false := by rfl) : XS X (.Expr e pos) nx D σ H := ⟨_, ps_expr XE.pe hs, h⟩
theorem xs_ret (h : XE X e σ H D.rt) : XS X (.Return (some e) pos) nx D σ H := ⟨_, ps_ret XE.pe, h⟩
theorem xs_retN (h : D.rt .non H) : XS X (.Return none pos) nx D σ H := ⟨_, ps_retN, h⟩
theorem xs_if {c : Expr} (h : XT X c σ H fun k H1 => if k = true then XB X sts nx D σ H1 else XB X sts' nx D σ H1) : XS X (.If c sts sts' pos) nx D σ H := ⟨_, ps_if XT.pt XB.ps XB.ps, h⟩
theorem xs_set (C : Ctx X sc N Vs Ls G k) (h : XE X e σ H fun v H1 => ∃ σ', Put N σ x v σ' ∧ nx σ' H1) (hs : swapsWith e (some (.Name x p1)) pos.line X.env = pure false := by rfl) (hx : Mem N x) (hl : Mem Ls x) : XS X (.Assign [.Name x p1] e pos) nx D σ H := by
  have hx' := hx.mem
  obtain ⟨i, hi⟩ := List.getElem?_of_mem hx'
  refine ⟨_, ps_set (i := i) (by rw [C.hN]; exact C.nd) (by rw [C.hN]; exact hi) (C.loc hl) XE.pe hs (.inl (C.fn x hl.mem)), ?_⟩
  refine XE.mono h fun v H1 ⟨σ', hp, q⟩ => ?_
  obtain ⟨j, hj, e⟩ := hp.ix
  have ij : i = j := nd_ix C.nd hi hj
  subst ij
  show nx (σ.set i (some v)) H1
  rw [e]; exact q
theorem xg_name (C : Ctx X sc N Vs Ls G k) {v : V} {Q : St → Hp → Prop} (hx : Mem N x) (hl : Mem Ls x) (h : ∃ σ', Put N σ x v σ' ∧ Q σ' H) : XG X (.Name x p1) v σ H Q := by
  have hx' := hx.mem
  obtain ⟨i, hi⟩ := List.getElem?_of_mem hx'
  refine ⟨_, pg_name (i := i) (by rw [C.hN]; exact C.nd) (by rw [C.hN]; exact hi) (C.loc hl) (.inl (C.fn x hl.mem)), ?_⟩
  obtain ⟨σ', hp, q⟩ := h
  obtain ⟨j, hj, e⟩ := hp.ix
  have ij : i = j := nd_ix C.nd hi hj
  subst ij
  show Q (σ.set i (some v)) H
  rw [e]; exact q
theorem XG.mono {v : V} {Q Q' : St → Hp → Prop} (h : XG X e v σ H Q) (m : ∀ σ H, Q σ H → Q' σ H) : XG X e v σ H Q' := by
  obtain ⟨t, ht, q⟩ := h
  refine ⟨fun v σ H R => ∃ R', t v σ H R' ∧ ∀ σ H', R' σ H' → R σ H', ⟨fun pins s σ H v u R I r ⟨R', q, m⟩ => ?_⟩, Q, q, m⟩
  exact thn (ht.run pins s σ H v u R' I r q) fun _ s ⟨σ', H', I', z⟩ => ⟨σ', H', I', m _ _ z⟩
/-- a, b, .. = a tuple -/
theorem xg_tup {j : Nat} {v : V} {Q : St → Hp → Prop} (C : Ctx X sc N Vs Ls G k) (h : ∃ p xs, v = .ref p ∧ SqT X.K H p xs ∧ xs.length = (assignEach es X.env).length ∧ XGs X es xs σ H Q) (hst : (assignEach es X.env).findIdx? (·.1) = none := by rfl) : XG X (.Tuple es j pos) v σ H Q :=
  ⟨_, pg_tup C.calm XGs.pgs rfl hst, h⟩
/-- o[i] = v -/
theorem xs_setIx {o i : Expr} (h : XE X e σ H fun v H1 => XE X o σ H1 fun ov H2 => XE X i σ H2 fun iv H3 => ∃ l xs k j, ov = .ref l ∧ iv = .int k ∧ H3 l = some (.lst xs) ∧ ixN xs.length k = some j ∧ ∀ H', Kp [l] H3 H' → H' l = some (.lst (xs.set j v)) → nx σ H')
    (ha : ∀ v, assign (.Subscript o i p1) X.env v = (do
      let z1 ← holding [v] (eval o X.env)
      let z2 ← holding [v, z1] (eval i X.env)
      standAt p1; holding [v, z1, z2] (setItem z1 z2 v)
      release [v, z1, z2] []) := by intro _; rfl)
    (hs : swapsWithSole [.Subscript o i p1] e pos.line X.env = pure false := by rfl) (hw : swappedStores [.Subscript o i p1] e X.env = pure none := by rfl)
    (h1 : (assignEach [.Subscript o i p1] X.env).map (·.2) = [assign (.Subscript o i p1) X.env] := by rfl) : XS X (.Assign [.Subscript o i p1] e pos) nx D σ H := by
  refine ⟨_, ps_asg XE.pe (pg_sub XE.pe XE.pe set_list ha) hs hw h1, ?_⟩
  refine XE.mono h fun v H1 h => XE.mono h fun ov H2 h => XE.mono h fun iv H3 ⟨l, xs, k, j, e1, e2, hl, hj, q⟩ => ?_
  exact ⟨l, xs, k, j, e1, e2, hl, hj, q _ (Kp.set hl rfl) upd_same⟩
theorem XB.imp {nx' : St → Hp → Prop} (h : XB X sts nx D σ H) (m : ∀ σ H, nx σ H → nx' σ H) : XB X sts nx' D σ H := by
  obtain ⟨t, ht, q⟩ := h
  refine ⟨fun D σ H => ∃ nx0, t ⟨nx0, D.rt, D.bk, D.ct⟩ σ H ∧ ∀ σ H, nx0 σ H → D.nx σ H, ⟨fun pins s σ H D I ⟨nx0, q, m⟩ => thn (ht.run pins s σ H _ I q) fun f s1 z => ?_⟩, nx, q, m⟩
  cases f with
  | next => obtain ⟨σ', H', I', z⟩ := z; exact ⟨σ', H', I', m _ _ z⟩
  | brk => exact z
  | cont => exact z
  | ret u => exact z

/-! ## loops -/
variable {tg iter : Expr} {body : List Stmt}
/-- for x in a tuple; a list that stands still; a range -/
theorem xs_forT (C : Ctx X sc N Vs Ls G k) (h : XE X iter σ H fun v H1 => ∃ a xs, v = .ref a ∧ SqT X.K H1 a xs ∧ ∃ Pv : Nat → St → Hp → Prop, Pv 0 σ H1 ∧ (∀ i σ' H', i ≤ xs.length → Pv i σ' H' → SqT X.K H' a xs) ∧
    (∀ i y σ' H', xs[i]? = some y → Pv i σ' H' → XG X tg y σ' H' fun σ2 H2 => XB X body (Pv (i + 1)) ⟨D.rt, nx, Pv (i + 1)⟩ σ2 H2) ∧ ∀ σ' H', Pv xs.length σ' H' → nx σ' H')
    (hs : ∀ x, foldedSetIterable iter X.env x = pure x := by intro _; rfl) : XS X (.For tg iter body [] pos) nx D σ H := by
  refine ⟨_, ps_for C.po C.calm (pi_tup XE.pe) XG.pg XB.ps hs, ?_⟩
  refine XE.mono h fun v H1 ⟨a, xs, e, hx, Pv, h0, hl, hs, hd⟩ => ⟨a, e, ⟨xs, hx⟩, ?_⟩
  exact for_tup (K := X.K) (a := a) (xs := xs) (D := ⟨nx, D.rt, D.bk, D.ct⟩) (g := XG X tg) (tb := fun D σ H => XB X body D.nx ⟨D.rt, D.bk, D.ct⟩ σ H) Pv h0 hl hs hd
theorem xs_forL (C : Ctx X sc N Vs Ls G k) (h : XE X iter σ H fun v H1 => ∃ a xs, v = .ref a ∧ SqL X.K H1 a xs ∧ ∃ Pv : Nat → St → Hp → Prop, Pv 0 σ H1 ∧ (∀ i σ' H', i ≤ xs.length → Pv i σ' H' → SqL X.K H' a xs) ∧
    (∀ i y σ' H', xs[i]? = some y → Pv i σ' H' → XG X tg y σ' H' fun σ2 H2 => XB X body (Pv (i + 1)) ⟨D.rt, nx, Pv (i + 1)⟩ σ2 H2) ∧ ∀ σ' H', Pv xs.length σ' H' → nx σ' H')
    (hs : ∀ x, foldedSetIterable iter X.env x = pure x := by intro _; rfl) : XS X (.For tg iter body [] pos) nx D σ H := by
  refine ⟨_, ps_for C.po C.calm (pi_list XE.pe) XG.pg XB.ps hs, ?_⟩
  refine XE.mono h fun v H1 ⟨a, xs, e, hx, Pv, h0, hl, hs, hd⟩ => ⟨a, e, ⟨xs, hx⟩, ?_⟩
  exact for_list (K := X.K) (a := a) (xs := xs) (D := ⟨nx, D.rt, D.bk, D.ct⟩) (g := XG X tg) (tb := fun D σ H => XB X body D.nx ⟨D.rt, D.bk, D.ct⟩ σ H) Pv h0 hl hs hd
theorem xs_forR1 (C : Ctx X sc N Vs Ls G k) (hg : Mem G "range") (hm : X.mg "range" = none) (h : XA X [a] σ H fun vs H1 => ∃ j : Int, vs = [.int j] ∧ -(2 ^ 62) ≤ j ∧ j < 2 ^ 62 ∧ ∃ Pv : Nat → St → Hp → Prop, Pv 0 σ H1 ∧
    (∀ i σ' H', i < j.toNat → Pv i σ' H' → XG X tg (.int i) σ' H' fun σ2 H2 => XB X body (Pv (i + 1)) ⟨D.rt, nx, Pv (i + 1)⟩ σ2 H2) ∧ ∀ σ' H', Pv j.toNat σ' H' → nx σ' H')
    (hst : starEach [a] X.env = [(false, eval a X.env)] := by rfl) (hs : ∀ x, foldedSetIterable (.Call (.Name "range" p1) [a] [] p2) X.env x = pure x := by intro _; rfl) : XS X (.For tg (.Call (.Name "range" p1) [a] [] p2) body [] pos) nx D σ H := by
  refine ⟨_, ps_for C.po C.calm (pi_range1 (C.gl hg) hm XA.pa hst) XG.pg XB.ps hs, ?_⟩
  refine XA.mono h fun v H1 ⟨j, e, h1, h2, Pv, h0, hs, hd⟩ => ⟨j, e, h1, h2, ?_⟩
  refine for_range (lo := 0) (n := j.toNat) (D := ⟨nx, D.rt, D.bk, D.ct⟩) (g := XG X tg) (tb := fun D σ H => XB X body D.nx ⟨D.rt, D.bk, D.ct⟩ σ H) Pv h0 (fun i σ H hi p => ?_) hd
  rw [Int.zero_add]; exact hs i σ H hi p
theorem xs_forR2 (C : Ctx X sc N Vs Ls G k) (hg : Mem G "range") (hm : X.mg "range" = none) (h : XA X [a, b] σ H fun vs H1 => ∃ l j : Int, vs = [.int l, .int j] ∧ (-(2 ^ 62) ≤ l ∧ l < 2 ^ 62 ∧ -(2 ^ 62) ≤ j ∧ j < 2 ^ 62) ∧ ∃ Pv : Nat → St → Hp → Prop, Pv 0 σ H1 ∧
    (∀ i σ' H', i < (j - l).toNat → Pv i σ' H' → XG X tg (.int (l + i)) σ' H' fun σ2 H2 => XB X body (Pv (i + 1)) ⟨D.rt, nx, Pv (i + 1)⟩ σ2 H2) ∧ ∀ σ' H', Pv (j - l).toNat σ' H' → nx σ' H')
    (hst : starEach [a, b] X.env = [(false, eval a X.env), (false, eval b X.env)] := by rfl) (hs2 : starEach [b] X.env = [(false, eval b X.env)] := by rfl)
    (hs : ∀ x, foldedSetIterable (.Call (.Name "range" p1) [a, b] [] p2) X.env x = pure x := by intro _; rfl) : XS X (.For tg (.Call (.Name "range" p1) [a, b] [] p2) body [] pos) nx D σ H := by
  refine ⟨_, ps_for C.po C.calm (pi_range2 (C.gl hg) hm XA.pa hst hs2) XG.pg XB.ps hs, ?_⟩
  refine XA.mono h fun v H1 ⟨l, j, e, h1, Pv, h0, hs, hd⟩ => ⟨l, j, e, h1, ?_⟩
  exact for_range (lo := l) (n := (j - l).toNat) (D := ⟨nx, D.rt, D.bk, D.ct⟩) (g := XG X tg) (tb := fun D σ H => XB X body D.nx ⟨D.rt, D.bk, D.ct⟩ σ H) Pv h0 hs hd

/-- x op= e, x a plain name -/
theorem VIp.mono {op : Operator} {x y : V} {Q' : VK} (h : VIp X op x y H Q) (m : ∀ v H', Q v H' → Q' v H') : VIp X op x y H Q' := by
  obtain ⟨t, ht, q⟩ := h
  exact ⟨fun x y H R => ∃ R', t x y H R' ∧ ∀ v H', R' v H' → R v H', fun pins s σ H x y v u R I rx ry ⟨R', q, m⟩ => thn (ht pins s σ H x y v u R' I rx ry q) fun v s ⟨x, H', I', r, z⟩ => ⟨x, H', I', r, m _ _ z⟩, Q, q, m⟩
theorem xs_aug {x : Str} {v : V} {op : Operator} (C : Ctx X sc N Vs Ls G k) (ha : At N σ x v) (hl : Mem Ls x) (h : XE X e σ H fun y H1 => VIp X op v y H1 fun z H2 => ∃ σ', Put N σ x z σ' ∧ nx σ' H2) : XS X (.AugAssign (.Name x p1) op e pos) nx D σ H := by
  obtain ⟨i, hi, hv⟩ := ha.ix
  refine ⟨_, ps_aug (i := i) (by rw [C.hN]; exact C.nd) (by rw [C.hN]; exact hi) (C.loc hl) XE.pe VIp.ok (.inl (C.fn x hl.mem)), v, hv, ?_⟩
  refine XE.mono h fun y H1 h => VIp.mono h fun z H2 ⟨σ', hp, q⟩ => ?_
  obtain ⟨j, hj, e⟩ := hp.ix
  have ij : i = j := nd_ix C.nd hi hj
  subst ij
  show nx (σ.set i (some z)) H2
  rw [e]; exact q
theorem vip_add {i j : Int} (h : Q (.int (i + j)) H) : VIp X .Add (.int i) (.int j) H Q := ⟨_, ip_add, i, j, rfl, rfl, h⟩
theorem vip_sub {i j : Int} (h : Q (.int (i - j)) H) : VIp X .Sub (.int i) (.int j) H Q := ⟨_, ip_sub, i, j, rfl, rfl, h⟩
/-- for a, b in zip of two lists of one length -/
theorem xs_forZ {elts : List Expr} {kk : Nat} {tpos : Pos} (C : Ctx X sc N Vs Ls G k) (hg : Mem G "zip") (hm : X.mg "zip" = none) (h : XA X [a, b] σ H fun vs H1 => ∃ p q xs ys, vs = [.ref p, .ref q] ∧ SqL X.K H1 p xs ∧ SqL X.K H1 q ys ∧ xs.length = ys.length ∧ ∃ Pv : Nat → St → Hp → Prop, Pv 0 σ H1 ∧
    (∀ i σ' H', Pv i σ' H' → SqL X.K H' p xs ∧ SqL X.K H' q ys) ∧ (∀ i x y T σ' H' H2, xs[i]? = some x → ys[i]? = some y → Pv i σ' H' → Kp [] H' H2 → SqT X.K H2 T [x, y] → XG X (.Tuple elts kk tpos) (.ref T) σ' H2 fun σ3 H3 => XB X body (Pv (i + 1)) ⟨D.rt, nx, Pv (i + 1)⟩ σ3 H3) ∧ ∀ σ' H', Pv xs.length σ' H' → nx σ' H')
    (hs : starEach [a, b] X.env = (false, eval a X.env) :: starEach [b] X.env := by rfl) (hpl : (backTo p2 (starEach [b] X.env)).any (·.1) = false := by rfl) (hfs : ∀ x, foldedSetIterable (.Call (.Name "zip" p1) [a, b] [] p2) X.env x = pure x := by intro _; rfl) : XS X (.For (.Tuple elts kk tpos) (.Call (.Name "zip" p1) [a, b] [] p2) body [] pos) nx D σ H := by
  refine ⟨_, ps_for C.po C.calm (pi_zip (C.gl hg) hm XA.pa hs hpl) XG.pg XB.ps hfs, ?_⟩
  refine XA.mono h fun vs H1 ⟨p, q, xs, ys, e, hx, hy, hl, Pv, h0, hq, hs, hd⟩ => ⟨p, q, xs, ys, e, hx, hy, ?_⟩
  exact RZ.for_zipL (K := X.K) (a := p) (b := q) (xs := xs) (ys := ys) (D := ⟨nx, D.rt, D.bk, D.ct⟩) (g := XG X (.Tuple elts kk tpos)) (tb := fun D σ H => XB X body D.nx ⟨D.rt, D.bk, D.ct⟩ σ H) hl Pv h0 hq
    (fun i x y T σ H hx hy hp hT => hs i x y T σ H _ hx hy hp (Kp.new hT) (.inl (.inl upd_same))) hd
/-! ## zip of a list and a tuple -/
/-- a list at a and a tuple at b as each turn finds them -/
def ItzM (K : PySem.W.Frag) (a b : Addr) : It where
  go := fun i H => ∃ xs ys x y, (SqL K H a xs ∧ xs[i]? = some x) ∧ SqT K H b ys ∧ ys[i]? = some y
  yld := fun i H v H' => ∃ T x y, (v = .ref T ∧ H' = upd H T (.tup [x, y]) ∧ H T = none) ∧ (∀ l, SqL K H a l → l[i]? = some x) ∧ ∀ t, SqT K H b t → t[i]? = some y
  stop := fun i H => ∃ xs ys, SqL K H a xs ∧ SqT K H b ys ∧ min xs.length ys.length = i
def tnM (z TI TO i1 i2 a b : Addr) (i : Nat) (h : Heap) : Prop :=
  IsZip h z TI TO .none ∧ IsTupOf2 h TI (.ref i1) (.ref i2) ∧ (∃ a1 a2, IsTupOf2 h TO a1 a2) ∧ h.IsListIter i1 a i ∧ h.IsTupleIter i2 b i
theorem turn_zipM {P : Program} {w : World} {K : PySem.W.Frag} {elts : List Expr} {kk : Nat} {tpos : Pos} {a b z TI TO i1 i2 : Addr} (S : ZipSep2 z TI TO i1 i2 [i1, a] [i2, b]) (n1 : a ≠ i1) (n2 : b ≠ i2) :
    Turn P w K (.Tuple elts kk tpos) (ItzM K a b) [z, TI, TO, i1, i2] z (tnM z TI TO i1 i2 a b) where
  mem := .head _
  obj := by
    rintro i h ⟨q1, q2, ⟨u1, u2, q3⟩, ⟨o1, e1, k1, d1⟩, o2, e2, k2, d2⟩ c hc
    simp only [List.mem_cons, List.not_mem_nil, or_false] at hc
    rcases hc with rfl | rfl | rfl | rfl | rfl
    · exact ⟨_, q1, nofun⟩
    · exact ⟨_, q2, nofun⟩
    · exact ⟨_, q3, nofun⟩
    · exact ⟨_, e1, fun v q => nomatch d1.symm.trans q⟩
    · exact ⟨_, e2, fun v q => nomatch d2.symm.trans q⟩
  keep := by
    rintro i h h' ⟨q1, q2, ⟨u1, u2, q3⟩, q4, q5⟩ k
    exact ⟨k _ (by simp) _ q1, k _ (by simp) _ q2, ⟨u1, u2, k _ (by simp) _ q3⟩, q4.at (k _ (by simp)), q5.at (k _ (by simp))⟩
  item := by
    rintro X rfl rfl rfl hc i pins s σ H E I hf st ⟨xs, ys, x, y, ⟨lx, ex⟩, ty, ey⟩
    have ⟨its, rv, p, _⟩ := I.list lx
    have ⟨its2, rv2, p2, _⟩ := I.tuple ty
    have ⟨u, hu, ru⟩ := rv.get ex
    have ⟨u2, hu2, ru2⟩ := rv2.get ey
    have hh := I.ok.hd hc
    have D1 := Draws.list (prog := X.prog) (w := X.w) (A := X.A.in1) hh i1 a n1 its.toArray
    have D2 := Draws.tuple (prog := X.prog) (w := X.w) (A := X.A.in1) hh i2 b n2 its2.toArray
    have W := GoesN.zip2 (elts := elts) (x1 := kk) (pos := tpos) S D1 D2
    have b1 : i < its.length := (List.getElem?_eq_some_iff.1 hu).1
    have b2 : i < its2.length := (List.getElem?_eq_some_iff.1 hu2).1
    refine W.goes i s (fun v s2 => ∃ x H', Inv X pins σ H' s2 ∧ RelV x v ∧ (ItzM X.K a b).yld i H x H' ∧ tnM z TI TO i1 i2 a b (i + 1) s2.heap ∧ ∀ b ∈ [z, TI, TO, i1, i2], H' b = none) E (by simp; omega) ⟨st.1, st.2.1, st.2.2.1, ⟨st.2.2.2.1, p.isList⟩, st.2.2.2.2, p2⟩ ?_
    rintro v h' tk ⟨T, v1, v2, rfl, hn, hv1, hv2, hT⟩ ⟨r1, r2, r3, ⟨r4, _⟩, r5, _⟩ hk _
    have c1 : v1 = u := by simpa [hu] using hv1.symm
    have c2 : v2 = u2 := by simpa [hu2] using hv2.symm
    subst c1 c2
    have new : ObjOk X.prog X.w (upd H T (.tup [x, y])) h' T (.tup [x, y]) := ⟨by show 2 ≤ sizeLine; decide, [v1, v2], .cons ru (.cons ru2 .nil), hT⟩
    refine ⟨.ref T, _, I.turnedNew (t' := tk) (ch := [z, TO, i1, i2]) (fun c o hb q => hk c o hb q) (fun c hm => hf c ?_) hn new, rfl, ⟨T, x, y, ⟨rfl, rfl, I.hok.fresh hn⟩, fun l hl => ?_, fun t ht => ?_⟩, ⟨r1, r2, r3, r4, r5⟩, fun c hm => ?_⟩
    · simp only [List.mem_cons, List.not_mem_nil, or_false] at hm ⊢
      rcases hm with e | e | e | e <;> simp [e]
    · exact I.list_inj hl lx ▸ ex
    · exact I.tuple_inj ht ty ▸ ey
    · have hl : c < s.heap.objs.size := by
        obtain ⟨q1, q2, ⟨_, _, q3⟩, ⟨_, q4, _⟩, _, q5, _⟩ := st
        simp only [List.mem_cons, List.not_mem_nil, or_false] at hm
        rcases hm with rfl | rfl | rfl | rfl | rfl
        · exact Heap.lt_size q1
        · exact Heap.lt_size q2
        · exact Heap.lt_size q3
        · exact Heap.lt_size q4
        · exact Heap.lt_size q5
      exact (upd_ne (Nat.ne_of_lt (Nat.lt_of_lt_of_le hl hn))).trans (hf c hm).1
  done := by
    rintro X rfl rfl rfl hc i pins s σ H E I hf st ⟨xs, ys, lx, ty, e⟩
    have ⟨its, rv, p, _⟩ := I.list lx
    have ⟨its2, rv2, p2, _⟩ := I.tuple ty
    have hh := I.ok.hd hc
    have D1 := Draws.list (prog := X.prog) (w := X.w) (A := X.A.in1) hh i1 a n1 its.toArray
    have D2 := Draws.tuple (prog := X.prog) (w := X.w) (A := X.A.in1) hh i2 b n2 its2.toArray
    have W := GoesN.zip2 (elts := elts) (x1 := kk) (pos := tpos) S D1 D2
    have hi : min its.toArray.size its2.toArray.size = i := by
      have l1 := rv.length
      have l2 := rv2.length
      simp; omega
    refine W.stops s (fun s1 => Inv X pins σ H s1) E (by rw [hi]; exact ⟨st.1, st.2.1, st.2.2.1, ⟨st.2.2.2.1, p.isList⟩, st.2.2.2.2, p2⟩) ?_
    intro h' tk hk _
    refine I.turnedL (t' := tk) (ch := [z, TO, i1, i2]) (fun c o hb q => hk c o hb q) fun c hm => hf c ?_
    simp only [List.mem_cons, List.not_mem_nil, or_false] at hm ⊢
    rcases hm with e | e | e | e <;> simp [e]
  self := fun A i s Q E st h => wpAny_pyIter_zip st.1 h
def iZipM (K : PySem.W.Frag) (ta : TA) : TI := fun σ H R => ta σ H fun vs H1 => ∃ a b xs ys, vs = [.ref a, .ref b] ∧ (SqL K H1 a xs ∧ SqT K H1 b ys) ∧ R (ItzM K a b) H1
theorem pi_zipM {X : Cx} {e e2 : Expr} {ta : TA} {p pos tpos : Pos} {elts : List Expr} {kk : Nat} (hg : Gl X "zip") (hm : X.mg "zip" = none) (ha : PA X [e, e2] ta)
    (hs : starEach [e, e2] X.env = (false, eval e X.env) :: starEach [e2] X.env) (hpl : (backTo pos (starEach [e2] X.env)).any (·.1) = false) :
    PI X (.Tuple elts kk tpos) (.Call (.Name "zip" p) [e, e2] [] pos) (iZipM X.K ta) where
  run := by
    intro pins s σ H R I h
    refine PyProof.Rows.Call_ (ld_blt I hg hm PyProof.Rows.boot_zip (PyProof.Rows.callWith_type1 (thn (ha.run pos pins s σ H _ I h) ?_) hs hpl))
    rintro us s1 ⟨vs, H1, I1, r1, a, b, xs, ys, rfl, ⟨lx, ty⟩, q⟩
    match us, r1 with
    | [_, _], .cons r (.cons r' .nil) =>
      cases r
      cases r'
      have ⟨its, _, p1, _⟩ := I1.list lx
      have ⟨its2, _, p2, _⟩ := I1.tuple ty
      have la : a < s1.heap.objs.size := p1.lt
      have lb : b < s1.heap.objs.size := have ⟨_, e, _⟩ := p2; Heap.lt_size e
      refine zip_begins2 (begins_list a its.toArray) (begins_tuple b its2.toArray) p1.isList p2 fun h' q1 q2 q3 q4 q5 _ hk => wpAny_pyIter_zip q1 ?_
      refine ⟨_, [s1.heap.objs.size + 4, s1.heap.objs.size + 2, s1.heap.objs.size + 3, s1.heap.objs.size, s1.heap.objs.size + 1], _, _, H1, rfl, I1.kept (t' := s1.toks) hk, turn_zipM (a := a) (b := b) (zip_sep2 (by simpa using la) (by simpa using lb)) (Nat.ne_of_lt la) (Nat.ne_of_lt (Nat.lt_succ_of_lt lb)), ⟨q1, q2, ⟨_, _, q3⟩, ⟨_, q4, rfl, rfl⟩, ⟨_, q5, rfl, rfl⟩⟩, fun c hm => ?_, q⟩
      have hl : s1.heap.objs.size ≤ c := by
        simp only [List.mem_cons, List.not_mem_nil, or_false] at hm
        rcases hm with rfl | rfl | rfl | rfl | rfl <;> first | exact Nat.le_refl _ | exact Nat.le_add_right _ _
      exact I1.fpOk hl (I1.hok.fresh hl)
theorem for_zipM {K : PySem.W.Frag} {a b : Addr} {xs ys : List V} {g : TG} {tb : TS} {D : Ends} {σ : L2.St} {H : Hp} (hl : xs.length = ys.length) (Pv : Nat → L2.St → Hp → Prop) (h0 : Pv 0 σ H) (hq : ∀ i σ H, Pv i σ H → SqL K H a xs ∧ SqT K H b ys)
    (hs : ∀ (i : Nat) (x y : V) (T : Addr) (σ : L2.St) (H : Hp), xs[i]? = some x → ys[i]? = some y → Pv i σ H → H T = none → g (.ref T) σ (upd H T (.tup [x, y])) fun σ2 H2 => tb ⟨Pv (i + 1), D.rt, D.nx, Pv (i + 1)⟩ σ2 H2) (hd : ∀ σ H, Pv xs.length σ H → D.nx σ H) :
    ∃ W : Nat → Nat → L2.St → Hp → Prop, (∃ m, W 0 m σ H) ∧ ∀ i m σ H, W i m σ H →
      ((ItzM K a b).stop i H ∧ D.nx σ H) ∨ ((ItzM K a b).go i H ∧ ∃ N : L2.St → Hp → Prop, (∀ σ' H', N σ' H' → ∃ m', m' < m ∧ W (i + 1) m' σ' H') ∧ ∀ v H', (ItzM K a b).yld i H v H' → g v σ H' fun σ2 H2 => tb { D with nx := N, ct := N, bk := D.nx } σ2 H2) := by
  refine ⟨fun i m σ H => i ≤ xs.length ∧ m + i = xs.length ∧ Pv i σ H, ⟨_, Nat.zero_le _, rfl, h0⟩, ?_⟩
  rintro i m σ H ⟨hi, hm, p⟩
  have ⟨qx, qy⟩ := hq i σ H p
  rcases Nat.lt_or_ge i xs.length with lt | ge
  · have l2 : i < ys.length := hl ▸ lt
    have ex := List.getElem?_eq_getElem lt
    have ey := List.getElem?_eq_getElem l2
    refine .inr ⟨⟨xs, ys, _, _, ⟨qx, ex⟩, qy, ey⟩, Pv (i + 1), fun σ' H' p' => ⟨m - 1, by omega, lt, by omega, p'⟩, ?_⟩
    rintro v H' ⟨T, x', y', ⟨rfl, rfl, hT⟩, f1, f2⟩
    exact hs i x' y' T σ H (f1 _ qx) (f2 _ qy) p hT
  · obtain rfl : i = xs.length := Nat.le_antisymm hi ge
    exact .inl ⟨⟨xs, ys, qx, qy, by omega⟩, hd σ H p⟩
/-- for a, b in zip of a list and a tuple of one length -/
theorem xs_forZM {elts : List Expr} {kk : Nat} {tpos : Pos} (C : Ctx X sc N Vs Ls G k) (hg : Mem G "zip") (hm : X.mg "zip" = none) (h : XA X [a, b] σ H fun vs H1 => ∃ p q xs ys, vs = [.ref p, .ref q] ∧ SqL X.K H1 p xs ∧ SqT X.K H1 q ys ∧ xs.length = ys.length ∧ ∃ Pv : Nat → St → Hp → Prop, Pv 0 σ H1 ∧
    (∀ i σ' H', Pv i σ' H' → SqL X.K H' p xs ∧ SqT X.K H' q ys) ∧ (∀ i x y T σ' H' H2, xs[i]? = some x → ys[i]? = some y → Pv i σ' H' → Kp [] H' H2 → SqT X.K H2 T [x, y] → XG X (.Tuple elts kk tpos) (.ref T) σ' H2 fun σ3 H3 => XB X body (Pv (i + 1)) ⟨D.rt, nx, Pv (i + 1)⟩ σ3 H3) ∧ ∀ σ' H', Pv xs.length σ' H' → nx σ' H')
    (hs : starEach [a, b] X.env = (false, eval a X.env) :: starEach [b] X.env := by rfl) (hpl : (backTo p2 (starEach [b] X.env)).any (·.1) = false := by rfl) (hfs : ∀ x, foldedSetIterable (.Call (.Name "zip" p1) [a, b] [] p2) X.env x = pure x := by intro _; rfl) : XS X (.For (.Tuple elts kk tpos) (.Call (.Name "zip" p1) [a, b] [] p2) body [] pos) nx D σ H := by
  refine ⟨_, ps_for C.po C.calm (pi_zipM (C.gl hg) hm XA.pa hs hpl) XG.pg XB.ps hfs, ?_⟩
  refine XA.mono h fun vs H1 ⟨p, q, xs, ys, e, hx, hy, hl, Pv, h0, hq, hs, hd⟩ => ⟨p, q, xs, ys, e, ⟨hx, hy⟩, ?_⟩
  exact for_zipM (K := X.K) (a := p) (b := q) (xs := xs) (ys := ys) (D := ⟨nx, D.rt, D.bk, D.ct⟩) (g := XG X (.Tuple elts kk tpos)) (tb := fun D σ H => XB X body D.nx ⟨D.rt, D.bk, D.ct⟩ σ H) hl Pv h0 hq
    (fun i x y T σ H hx hy hp hT => hs i x y T σ H _ hx hy hp (Kp.new hT) (.inl (.inl upd_same))) hd
/-- while: a word by a measure -/
theorem xs_while {c : Expr} (C : Ctx X sc N Vs Ls G k) (Pv : Nat → St → Hp → Prop) (h0 : ∃ m, Pv m σ H) (hs : ∀ m σ' H', Pv m σ' H' → XT X c σ' H' fun b H1 => if b = true then XB X body (fun σ2 H2 => ∃ m', m' < m ∧ Pv m' σ2 H2) ⟨D.rt, nx, fun σ2 H2 => ∃ m', m' < m ∧ Pv m' σ2 H2⟩ σ' H1 else nx σ' H1) :
    XS X (.While c body [] pos) nx D σ H := by
  refine ⟨_, ps_while C.po XT.pt XB.ps, Pv, h0, fun m σ' H' p => XT.mono (hs m σ' H' p) fun b H1 q => ?_⟩
  cases b with
  | true => exact ⟨_, fun _ _ z => z, q⟩
  | false => exact q
/-- a, b = a pair -/
theorem xs_asg {tg : Expr} (h : XE X e σ H fun v H1 => XG X tg v σ H1 nx) (hs : swapsWithSole [tg] e pos.line X.env = pure false := by rfl) (hw : swappedStores [tg] e X.env = pure none := by rfl) (h1 : (assignEach [tg] X.env).map (·.2) = [assign tg X.env] := by rfl) : XS X (.Assign [tg] e pos) nx D σ H :=
  ⟨_, ps_asg XE.pe XG.pg hs hw h1, h⟩
theorem xgs_nil {Q : St → Hp → Prop} (h : Q σ H) : XGs X [] [] σ H Q := ⟨_, pgs_nil, rfl, h⟩
theorem xgs_cons {v : V} {vs : List V} {Q : St → Hp → Prop} (h : XG X e v σ H fun σ' H' => XGs X es vs σ' H' Q) (hs : (assignEach (e :: es) X.env).map (·.2) = assign e X.env :: (assignEach es X.env).map (·.2) := by rfl) : XGs X (e :: es) (v :: vs) σ H Q :=
  ⟨_, pgs_cons XG.pg XGs.pgs hs, v, vs, rfl, h⟩
theorem sw_par {env : Env} {x y : Str} {a b : Expr} {px py pt pt2 : Pos} {kt k2 : Nat} (hb : env.blockKind = .function) (hx : env.kindOf x = some .local) (hy : env.kindOf y = some .local) (hxy : ([x, y].eraseDups.length != [x, y].length) = false) (hl : (py.line == px.line) = true)
    (ha : ∀ z p, a ≠ .Starred z p) (hb' : ∀ z p, b ≠ .Starred z p) (hf : [a, b].all (foldedForSure 8) = false) (hc : [a, b].all (constantsAlone 8) = false) : swappedStores [.Tuple [.Name x px, .Name y py] kt pt] (.Tuple [a, b] k2 pt2) env = pure (some [x, y]) := by
  have e1 : (some NameKind.local == some NameKind.local) = true := by decide
  have e2 : (ScopeKind.function != ScopeKind.function) = false := by decide
  unfold swappedStores
  simp only [hb, hf, hc, e2, List.filterMap_cons, List.filterMap_nil, List.head?_cons, Option.map_some, Option.getD_some, Expr.pos, hx, hy, hl, e1, beq_self_eq_true, Bool.and_self, if_true, hxy]
  rw [if_neg (by simp)]
  split
  · rename_i h
    exfalso
    simp only [List.any_cons, List.any_nil, Bool.or_false, Bool.or_eq_true] at h
    cases h
  · rw [if_neg (by simp), if_neg Bool.false_ne_true, if_neg Bool.false_ne_true]
/-- a, b = x, y: plain locals -/
theorem xs_par {x y : Str} {px py pt pt2 : Pos} {kt k2 : Nat} (C : Ctx X sc N Vs Ls G k) (hx : Mem N x) (hy : Mem N y) (hxl : sc.names.lookup x = some .local) (hyl : sc.names.lookup y = some .local) (hxy : ([x, y].eraseDups.length != [x, y].length) = false)
    (h : XE X a σ H fun v H1 => XE X b σ H1 fun u H2 => ∃ σ1 σ2, Put N σ x v σ1 ∧ Put N σ1 y u σ2 ∧ nx σ2 H2) (hl : (py.line == px.line) = true := by rfl) (ha : ∀ z p, a ≠ .Starred z p := by intro _ _ h; cases h) (hb' : ∀ z p, b ≠ .Starred z p := by intro _ _ h; cases h) (hf : [a, b].all (foldedForSure 8) = false := by rfl) (hc : [a, b].all (constantsAlone 8) = false := by rfl)
    (hst : starEach (a :: b :: []) X.env = (false, eval a X.env) :: starEach (b :: []) X.env := by rfl) (hst2 : starEach (b :: []) X.env = (false, eval b X.env) :: starEach [] X.env := by rfl)
    (hs : swapsWithSole [.Tuple [.Name x px, .Name y py] kt pt] (.Tuple [a, b] k2 pt2) pos.line X.env = pure false := by rfl) : XS X (.Assign [.Tuple [.Name x px, .Name y py] kt pt] (.Tuple [a, b] k2 pt2) pos) nx D σ H := by
  obtain ⟨i, hi⟩ := List.getElem?_of_mem hx.mem
  obtain ⟨j, hj⟩ := List.getElem?_of_mem hy.mem
  have hij : i ≠ j := fun e => by
    subst e
    rw [hi] at hj
    cases Option.some.inj hj
    exact absurd hxy (by simp [List.eraseDups_cons])
  have hxl' : X.env.scope.names.lookup x = some .local := by rw [C.esc]; exact hxl
  have hyl' : X.env.scope.names.lookup y = some .local := by rw [C.esc]; exact hyl
  have hb : X.env.blockKind = .function := by unfold Env.blockKind; rw [C.esc, C.knd]; rfl
  refine ⟨_, ps_par (i := i) (j := j) C.calm (by rw [C.hN]; exact C.nd) (by rw [C.hN]; exact hi) (by rw [C.hN]; exact hj) hij hxl' hyl' XA.pa (sw_par hb hxl' hyl' hxy hl ha hb' hf hc) hs, ?_⟩
  refine xa_cons (hs := hst) (XE.mono h fun v H1 h => xa_cons (hs := hst2) (XE.mono h fun u H2 ⟨σ1, σ2, p1, p2, q⟩ => xa_nil ?_))
  refine ⟨v, u, rfl, ?_⟩
  obtain ⟨i', hi', e1⟩ := p1.ix
  obtain ⟨j', hj', e2⟩ := p2.ix
  have ei : i = i' := nd_ix C.nd hi hi'
  have ej : j = j' := nd_ix C.nd hj hj'
  subst ei; subst ej
  show nx ((σ.set i (some v)).set j (some u)) H2
  rw [e1, e2]; exact q
/-- xs[::-1] -/
theorem xe_revL {j : Nat} {p4 : Pos} (h : XE X a σ H fun v H1 => ∃ p xs, v = .ref p ∧ SqL X.K H1 p xs ∧ ∀ r H', Kp [] H1 H' → H1 r = none → H' r = some (.lst xs.reverse) → Q (.ref r) H') : XE X (.Subscript a (.Slice none none (some (.UnaryOp .USub (.Constant (.int 1) j p1) p2)) p3) p4) σ H Q :=
  ⟨_, pe_revL XE.pe, h.mono fun v H1 ⟨p, xs, e, hx, q⟩ => ⟨p, xs, e, hx, new_ q⟩⟩
theorem XS.imp {nx' : St → Hp → Prop} (h : XS X s nx D σ H) (m : ∀ σ H, nx σ H → nx' σ H) : XS X s nx' D σ H := by
  obtain ⟨t, ht, q⟩ := h
  refine ⟨fun D σ H => ∃ nx0, t ⟨nx0, D.rt, D.bk, D.ct⟩ σ H ∧ ∀ σ H, nx0 σ H → D.nx σ H, ⟨fun pins s σ H D I ⟨nx0, q, m⟩ => thn (ht.run pins s σ H _ I q) fun f s1 z => ?_⟩, nx, q, m⟩
  cases f with
  | next => obtain ⟨σ', H', I', z⟩ := z; exact ⟨σ', H', I', m _ _ z⟩
  | brk => exact z
  | cont => exact z
  | ret u => exact z

/-! ## comprehensions -/
def XLC (X : Cx) (elt tg iter : Expr) (ifs : List Expr) (scope : Scope) (σ : St) (H : Hp) (Q : VK) : Prop := ∃ (wi : TI) (g : TG) (tt : TT) (te : TE) (own : List (Str × Nat)), PI X tg iter wi ∧ BlkOk X.N X.env.scope scope own ∧
  (∀ (s : Shared) (H : Hp) (c : Addr) (cl : List (Str × Addr)) (fp : List Addr), PG (X.blk s H scope (compEnvC scope cl c X.env) fp) tg g) ∧ (∀ (s : Shared) (H : Hp) (c : Addr) (cl : List (Str × Addr)) (fp : List Addr), PTs (X.blk s H scope (compEnvC scope cl c X.env) fp) ifs tt) ∧
  (∀ (s : Shared) (H : Hp) (c : Addr) (cl : List (Str × Addr)) (fp : List Addr), PE (X.blk s H scope (compEnvC scope cl c X.env) fp) elt te) ∧ (∀ σ H R R', (∀ J H, R J H → R' J H) → wi σ H R → wi σ H R') ∧ tLc wi g tt te (own.map (·.2)) σ H Q
variable {elt : Expr} {ifs : List Expr} {scope : Scope}
theorem tLc_mono {wi : TI} {g : TG} {tt : TT} {te : TE} {vs : List Nat} {Q Q' : VK} (hw : ∀ σ H R R', (∀ J H, R J H → R' J H) → wi σ H R → wi σ H R') (h : tLc wi g tt te vs σ H Q) (m : ∀ v H, Q v H → Q' v H) : tLc wi g tt te vs σ H Q' := by
  refine hw _ _ _ _ (fun J H1 h D hD => ?_) h
  obtain ⟨W, h0, h⟩ := h D hD
  refine ⟨W, h0, fun i n H w => ?_⟩
  rcases h i n H w with ⟨a, b⟩ | b
  · exact .inl ⟨a, m _ _ b⟩
  · exact .inr b
theorem xe_lc (C : Ctx X sc N Vs Ls G k) (h : XLC X elt tg iter ifs scope σ H Q) (hs : ∀ x, foldedSetIterable iter X.env x = pure x := by intro _; rfl) : XE X (.ListComp elt [⟨tg, iter, ifs, 0⟩] scope pos) σ H Q := by
  obtain ⟨wi, g, tt, te, own, h1, h2, h3, h4, h5, h6, q⟩ := h
  exact ⟨_, pe_lc C.calm (by rw [C.hN]; exact C.nd) h1 h2 h3 h4 h5 hs, q⟩
/-- y = [..], y a plain local -/
theorem xs_setLc {y : Str} (C : Ctx X sc N Vs Ls G k) (hm : Mem N y) (hyl : sc.names.lookup y = some .local) (hl : (p1.line == pos.line) = true) (ha : (scope.names.any fun (n, k) => n == y && (k == .local || k == .cell)) = false)
    (h : XLC X elt tg iter ifs scope σ H fun v H1 => ∃ σ', Put N σ y v σ' ∧ nx σ' H1) (hs : ∀ x, foldedSetIterable iter X.env x = pure x := by intro _; rfl) : XS X (.Assign [.Name y p1] (.ListComp elt [⟨tg, iter, ifs, 0⟩] scope pos) p2) nx D σ H := by
  obtain ⟨wi, g, tt, te, own, h1, h2, h3, h4, h5, h6, q⟩ := h
  obtain ⟨i, hi⟩ := List.getElem?_of_mem hm.mem
  have hyl' : X.env.scope.names.lookup y = some .local := by rw [C.esc]; exact hyl
  refine XS.imp (nx := fun σ1 H1 => ∃ v, σ1 = σ.set i (some v) ∧ ∃ σ', Put N σ y v σ' ∧ nx σ' H1) ⟨_, ps_setLc (i := i) C.calm (by rw [C.hN]; exact C.nd) (by rw [C.hN]; exact hi) hyl' (sw_true (by rw [C.esc]; exact C.knd) hyl' hl ha) h1 h2 h3 h4 h5 hs, ?_⟩ ?_
  · exact tLc_mono h6 q fun v H1 z => ⟨v, rfl, z⟩
  · rintro σ1 H1 ⟨v, rfl, σ', hp, q⟩
    obtain ⟨j, hj, e⟩ := hp.ix
    have ij : i = j := nd_ix C.nd hi hj
    subst ij
    rw [e]; exact q
/-- y = [..], y a name that a comprehension reads (a cell) -/
theorem blk_ctx {Vs' G' : List Str} {s : Shared} {H : Hp} {c : Addr} {cl : List (Str × Addr)} {fp : List Addr} (C : Ctx X sc N Vs Ls G k) (h : okC (relS scope sc) Vs' [] G' = true) (hk : scope.kind = .function) :
    Ctx (X.blk s H scope (compEnvC scope cl c X.env) fp) (relS scope sc) N Vs' [] G' k :=
  ⟨C.hN, C.nd, by rw [← C.esc]; rfl, h, C.calm, fun _ m => (nomatch m), PassesOwn.never, hk, C.room⟩

/-- what one turn of a comprehension asks: the target's slot, the test (one or none), the element -/
def XEC (X : Cx) (sc scope : Scope) (N Vs' G' : List Str) (k : Nat) (elt : Expr) : TE := fun σ H Q => ∀ (s0 : Shared) (H0 : Hp) (c : Addr) (cl : List (Str × Addr)) (fp : List Addr), Ctx (X.blk s0 H0 scope (compEnvC scope cl c X.env) fp) (relS scope sc) N Vs' [] G' k → XE (X.blk s0 H0 scope (compEnvC scope cl c X.env) fp) elt σ H Q
def XTC (X : Cx) (sc scope : Scope) (N Vs' G' : List Str) (k : Nat) (elt : Expr) : TT := fun σ H Q => ∀ (s0 : Shared) (H0 : Hp) (c : Addr) (cl : List (Str × Addr)) (fp : List Addr), Ctx (X.blk s0 H0 scope (compEnvC scope cl c X.env) fp) (relS scope sc) N Vs' [] G' k → XT (X.blk s0 H0 scope (compEnvC scope cl c X.env) fp) elt σ H Q
def XTurn (X : Cx) (sc scope : Scope) (N Vs' G' : List Str) (k : Nat) (nm : Str) (ifs : List Expr) (elt : Expr) (σ : St) (y : V) (H : Hp) (L : Addr) (Nx : Hp → Prop) : Prop :=
  ∃ σ', Put N σ nm y σ' ∧ 
    match ifs with
    | [] => XEC X sc scope N Vs' G' k elt σ' H fun z H4 => ∃ acc, H4 L = some (.lst acc) ∧ acc.length < sizeLine ∧ ∀ H5, Kp [L] H4 H5 → H5 L = some (.lst (acc ++ [z])) → Nx H5
    | c' :: _ => XTC X sc scope N Vs' G' k c' σ' H fun b H3 => if b = true then XEC X sc scope N Vs' G' k elt σ' H3 (fun z H4 => ∃ acc, H4 L = some (.lst acc) ∧ acc.length < sizeLine ∧ ∀ H5, Kp [L] H4 H5 → H5 L = some (.lst (acc ++ [z])) → Nx H5) else Nx H3
def teC (X : Cx) (scope : Scope) (elt : Expr) : TE := fun σ H Q => ∀ (s0 : Shared) (H0 : Hp) (c : Addr) (cl : List (Str × Addr)) (fp : List Addr), XE (X.blk s0 H0 scope (compEnvC scope cl c X.env) fp) elt σ H Q
def ttC (X : Cx) (scope : Scope) (ifs : List Expr) : TT := fun σ H Q => match ifs with
  | [] => Q true H
  | c' :: _ => ∀ (s0 : Shared) (H0 : Hp) (c : Addr) (cl : List (Str × Addr)) (fp : List Addr), XT (X.blk s0 H0 scope (compEnvC scope cl c X.env) fp) c' σ H Q
theorem put_wipe {nm : Str} {y : V} {i : Nat} (hN : N[i]? = some nm) (nd : N.Nodup) (hp : Put N σ nm y σ') : (wipe σ [i]).set i (some y) = σ' ∧ wipe σ' [i] = wipe σ [i] := by
  obtain ⟨j, hj, e⟩ := hp.ix
  have ij : i = j := nd_ix nd hN hj
  subst ij
  subst e
  exact ⟨by show (σ.set i none).set i (some y) = _; rw [List.set_set], by show (σ.set i (some y)).set i none = σ.set i none; rw [List.set_set]⟩
section
variable {nm : Str} {i : Nat} {Vs' G' : List Str}
theorem turn_ok (C : Ctx X sc N Vs Ls G k) (hN : N[i]? = some nm) (hV : okC (relS scope sc) Vs' [] G' = true) (hk : scope.kind = .function) (hif : ifs.length ≤ 1) {y : V} {L : Addr} {Nx : Hp → Prop} (h : XTurn X sc scope N Vs' G' k nm ifs elt σ y H L Nx) :
    gName i y (wipe σ [i]) H fun σ2 H2 => wipe σ2 [i] = wipe σ [i] ∧ ttC X scope ifs σ2 H2 fun b H3 => if b = true then teC X scope elt σ2 H3 (fun y H4 => ∃ acc, H4 L = some (.lst acc) ∧ acc.length < sizeLine ∧ Nx (upd H4 L (.lst (acc ++ [y])))) else Nx H3 := by
  obtain ⟨σ', hp, h⟩ := h
  obtain ⟨e1, e2⟩ := put_wipe hN C.nd hp
  show wipe ((wipe σ [i]).set i (some y)) [i] = wipe σ [i] ∧ ttC X scope ifs ((wipe σ [i]).set i (some y)) H _
  rw [e1]
  refine ⟨e2, ?_⟩
  have fin : ∀ H3, XEC X sc scope N Vs' G' k elt σ' H3 (fun z H4 => ∃ acc, H4 L = some (.lst acc) ∧ acc.length < sizeLine ∧ ∀ H5, Kp [L] H4 H5 → H5 L = some (.lst (acc ++ [z])) → Nx H5) →
      teC X scope elt σ' H3 (fun y H4 => ∃ acc, H4 L = some (.lst acc) ∧ acc.length < sizeLine ∧ Nx (upd H4 L (.lst (acc ++ [y])))) := fun H3 h s0 H0 c cl fp =>
    (h s0 H0 c cl fp (blk_ctx C hV hk)).mono fun v H4 ⟨acc, h1, h2, h3⟩ => ⟨acc, h1, h2, h3 _ (Kp.set h1 rfl) upd_same⟩
  cases ifs with
  | nil =>
    exact iteT (B := Nx H) (fin H h)
  | cons c' r =>
    intro s0 H0 c cl fp
    refine (h s0 H0 c cl fp (blk_ctx C hV hk)).mono fun b H3 q => ?_
    cases b with
    | false => exact q
    | true => exact fin H3 q
theorem pg_blk (C : Ctx X sc N Vs Ls G k) (hN : N[i]? = some nm) (hl : (relS scope sc).names.lookup nm = some .local) {s0 : Shared} {H0 : Hp} {c : Addr} {cl : List (Str × Addr)} {fp : List Addr} : PG (X.blk s0 H0 scope (compEnvC scope cl c X.env) fp) (.Name nm p1) (gName i) := by
  have e : (compEnvC scope cl c X.env).scope = relS scope sc := by rw [← C.esc]; rfl
  refine pg_name (X := X.blk s0 H0 scope (compEnvC scope cl c X.env) fp) (i := i) (by show X.N.Nodup; rw [C.hN]; exact C.nd) (by show X.N[i]? = _; rw [C.hN]; exact hN) (.inl ?_) (.inr ?_)
  · show (compEnvC scope cl c X.env).scope.names.lookup nm = _
    rw [e]; exact hl
  · show (compEnvC scope cl c X.env).scope.names.lookup nm = _
    rw [e]; exact hl
theorem pts_blk (hif : ifs.length ≤ 1) {s0 : Shared} {H0 : Hp} {c : Addr} {cl : List (Str × Addr)} {fp : List Addr} : PTs (X.blk s0 H0 scope (compEnvC scope cl c X.env) fp) ifs (ttC X scope ifs) := by
  cases ifs with
  | nil => exact pts_nil
  | cons c' r =>
    cases r with
    | nil => exact pts_one ⟨fun pins s σ H Q I h => (XT.pt).run pins s σ H Q I (h s0 H0 c cl fp)⟩
    | cons _ _ => simp at hif
theorem pe_blk {s0 : Shared} {H0 : Hp} {c : Addr} {cl : List (Str × Addr)} {fp : List Addr} : PE (X.blk s0 H0 scope (compEnvC scope cl c X.env) fp) elt (teC X scope elt) := ⟨fun pins s σ H Q I h => (XE.pe).run pins s σ H Q I (h s0 H0 c cl fp)⟩
/-- the closed facts of a comprehension: its target's name and slot, what it reads -/
structure LcOk (sc scope : Scope) (N Vs' G' : List Str) (nm : Str) (i : Nat) (ifs : List Expr) : Prop where
  hN : N[i]? = some nm
  blk : blkC N sc scope [(nm, i)] = true
  rd : okC (relS scope sc) Vs' [] G' = true
  knd : scope.kind = .function
  own : (relS scope sc).names.lookup nm = some .local
  one : ifs.length ≤ 1
theorem xlc_R1 (C : Ctx X sc N Vs Ls G k) (O : LcOk sc scope N Vs' G' nm i ifs) (hg : Mem G "range") (hm : X.mg "range" = none)
    (h : XA X [a] σ H fun vs H1 => ∃ j : Int, vs = [.int j] ∧ -(2 ^ 62) ≤ j ∧ j < 2 ^ 62 ∧ ∀ L H2, Kp [] H1 H2 → H1 L = none → H2 L = some (.lst []) → ∃ Pv : Nat → Hp → Prop, Pv 0 H2 ∧
      (∀ t H', t < j.toNat → Pv t H' → XTurn X sc scope N Vs' G' k nm ifs elt σ (.int t) H' L (Pv (t + 1))) ∧ ∀ H', Pv j.toNat H' → Q (.ref L) H')
    (hst : starEach [a] X.env = [(false, eval a X.env)] := by rfl) : XLC X elt (.Name nm p1) (.Call (.Name "range" p2) [a] [] pos) ifs scope σ H Q := by
  refine ⟨_, gName i, ttC X scope ifs, teC X scope elt, [(nm, i)], pi_range1 (C.gl hg) hm XA.pa hst, blkOk_by (by rw [C.hN, C.esc]; exact O.blk), fun _ _ _ _ _ => pg_blk C O.hN O.own, fun _ _ _ _ _ => pts_blk O.one, fun _ _ _ _ _ => pe_blk,
    fun σ H R R' m h => h.mono fun vs H1 ⟨j, e, h1, h2, q⟩ => ⟨j, e, h1, h2, m _ _ q⟩, ?_⟩
  refine h.mono fun vs H1 ⟨j, e, h1, h2, h⟩ => ⟨j, e, h1, h2, fun L hL => ?_⟩
  obtain ⟨Pv, h0, hs, hd⟩ := h L _ (Kp.new hL) hL upd_same
  refine lc_range (lo := 0) (n := j.toNat) Pv h0 (fun t H' ht p => ?_) hd
  rw [Int.zero_add]
  exact turn_ok C O.hN O.rd O.knd O.one (hs t H' ht p)
theorem xlc_L (C : Ctx X sc N Vs Ls G k) (O : LcOk sc scope N Vs' G' nm i ifs)
    (h : XE X iter σ H fun v H1 => ∃ a xs, v = .ref a ∧ SqL X.K H1 a xs ∧ ∀ L H2, Kp [] H1 H2 → H1 L = none → H2 L = some (.lst []) → ∃ Pv : Nat → Hp → Prop, Pv 0 H2 ∧ (∀ t H', t ≤ xs.length → Pv t H' → SqL X.K H' a xs) ∧
      (∀ t y H', xs[t]? = some y → Pv t H' → XTurn X sc scope N Vs' G' k nm ifs elt σ y H' L (Pv (t + 1))) ∧ ∀ H', Pv xs.length H' → Q (.ref L) H') : XLC X elt (.Name nm p1) iter ifs scope σ H Q := by
  refine ⟨_, gName i, ttC X scope ifs, teC X scope elt, [(nm, i)], pi_list XE.pe, blkOk_by (by rw [C.hN, C.esc]; exact O.blk), fun _ _ _ _ _ => pg_blk C O.hN O.own, fun _ _ _ _ _ => pts_blk O.one, fun _ _ _ _ _ => pe_blk,
    fun σ H R R' m h => h.mono fun v H1 ⟨a, e, h1, q⟩ => ⟨a, e, h1, m _ _ q⟩, ?_⟩
  refine h.mono fun v H1 ⟨a, xs, e, hx, h⟩ => ⟨a, e, ⟨xs, hx⟩, fun L hL => ?_⟩
  obtain ⟨Pv, h0, hl, hs, hd⟩ := h L _ (Kp.new hL) hL upd_same
  exact lc_list (K := X.K) (a := a) (xs := xs) Pv h0 hl (fun t y H' ht p => turn_ok C O.hN O.rd O.knd O.one (hs t y H' ht p)) hd
end

/-! ## a def and its body -/
def st0 : List Str → List V → St
  | [], _ => []
  | _ :: N, v :: vs => some v :: st0 N vs
  | _ :: N, [] => none :: st0 N []
theorem st0_nil : ∀ N : List Str, st0 N [] = List.replicate N.length none
  | [] => rfl
  | _ :: N => by show none :: st0 N [] = _; rw [st0_nil N]; rfl
theorem start_eq : ∀ (N : List Str) (vs : List V), vs.length ≤ N.length → start N vs = st0 N vs
  | [], [], _ => rfl
  | [], _ :: _, h => by simp at h
  | x :: N, [], _ => by rw [st0_nil]; rfl
  | x :: N, v :: vs, h => by
    show some v :: (vs.map some ++ List.replicate (N.length + 1 - (vs.length + 1)) none) = some v :: st0 N vs
    rw [← start_eq N vs (by simpa using h), Nat.add_sub_add_right]; rfl
/-- where a def stands -/
structure DefAt (K : PySem.W.Frag) (mg : Str → Option Value) (x qual : Str) (st : Stmt) (ps : List Str) : Prop where
  ex : ∃ f fd, Fun K x qual st f fd ∧ mg x = some (.ref f) ∧ Binds K fd ps []
end
section
variable {P : Program} {w : World} {K : PySem.W.Frag} {mg : Str → Option Value} {base : Heap}
theorem fnOk_by {x qual : Str} {st : Stmt} {f : Addr} {fd : FuncData} {N Vs ps G : List Str} {k : Nat} {sp : Sp} (F : Fun K x qual st f fd) (S : FnScope N ps (defScope st)) (ok : okC (defScope st) Vs Vs G = true) (len : ∀ vs H Q E, sp vs H Q E → vs.length = ps.length)
    (hbody : ∀ X : Cx, X.prog = P → X.w = w → X.K = K → X.mg = mg → X.base = base → Ctx X (defScope st) N Vs Vs G k → ∀ (H : Hp) (vs : List V) (Q : VK) (E : XK), sp vs H Q E → XB X (defBody st) (fun _ H' => Q .non H') ⟨Q, fun _ _ => False, fun _ _ => False⟩ (st0 N vs) H) :
    FnOk P w K mg base CX0 (k + 1) f fd ps sp := by
  refine F.ok S len (fun cdv A outer s H vs Q E hr h => ?_)
  have hl : vs.length ≤ N.length := by
    rw [len vs H Q E h]
    have := S.pre
    rw [← this, List.length_take]; exact Nat.min_le_right _ _
  rw [start_eq N vs hl]
  obtain ⟨t, h1, q⟩ := hbody ((cxOf CX0 P w K mg base N qual (defScope st) f cdv A outer s H E).nox) rfl rfl rfl rfl rfl ⟨rfl, S.nd, rfl, ok, rfl, fun _ _ => rfl, PassesOwn.never, S.kind, hr⟩ H vs Q E h
  exact ⟨t, h1, q⟩
theorem DefOk.by {x qual : Str} {st : Stmt} {N Vs ps G : List Str} {k : Nat} {sp : Sp} (F : DefAt K mg x qual st ps) (S : FnScope N ps (defScope st)) (ok : okC (defScope st) Vs Vs G = true) (len : ∀ vs H Q E, sp vs H Q E → vs.length = ps.length)
    (hbody : ∀ X : Cx, X.prog = P → X.w = w → X.K = K → X.mg = mg → X.base = base → Ctx X (defScope st) N Vs Vs G k → ∀ (H : Hp) (vs : List V) (Q : VK) (E : XK), sp vs H Q E → XB X (defBody st) (fun _ H' => Q .non H') ⟨Q, fun _ _ => False, fun _ _ => False⟩ (st0 N vs) H) :
    DefOk P w K mg base x ps (k + 1) sp := by
  obtain ⟨f, fd, F, hm, hb⟩ := F.ex
  exact ⟨f, fd, fnOk_by F S ok len hbody, hm, F.kp, hb⟩
/-- a class of the module that is made by its __init__ -/
structure ClsOk (P : Program) (w : World) (K : PySem.W.Frag) (mg : Str → Option Value) (base : Heap) (x : Str) (C : Addr) (ps : List Str) (k : Nat) (sp : Sp) : Prop where
  ex : ∃ f fd, FnOk P w K mg base CX0 k f fd ps sp ∧ mg x = some (.ref C) ∧ Mk K C f ∧ Binds K fd ps []
theorem xe_make {X : Cx} {sc : Scope} {N Vs Ls G : List Str} {k k' : Nat} {x : Str} {C : Addr} {ps : List Str} {sp : Sp} {a : Expr} {es : List Expr} {p1 pos : Pos} {σ : St} {H : Hp} {Q : VK} (Cc : Ctx X sc N Vs Ls G k) (F : ClsOk X.prog X.w X.K X.mg X.base x C ps k' sp) (hg : Mem G x) (hk : k' + 1 ≤ k)
    (h : XA X (a :: es) σ H fun vs H1 => ∀ z dx, H1 z = none → H1 dx = none → dx ≠ z → sp (.ref z :: vs) (upd (upd H1 dx (.own z)) z (.ins C dx [])) (fun v H2 => v = .non ∧ Q (.ref z) H2) E0)
    (hdb : (x == ("__debug__" : Str)) = false := by decide) (he : starEach (a :: es) X.env = (false, eval a X.env) :: starEach es X.env := by rfl) (hpl : (backTo pos (starEach es X.env)).any (·.1) = false := by rfl) : XE X (.Call (.Name x p1) (a :: es) [] pos) σ H Q := by
  obtain ⟨f, fd, F, hm, M, b⟩ := F.ex
  refine ⟨_, pe_make M F (Cc.room.mono hk) (Cc.gl hg) hm b .nil pass0 XA.pa hdb he hpl, ?_⟩
  refine XA.mono h fun vs H1 q z dx h1 h2 h3 => ?_
  rw [List.append_nil]; exact q z dx h1 h2 h3
/-- an instance: its own dict besides -/
theorem Kp.made {H : Hp} {z dx C : Addr} (h1 : H z = none) (h2 : H dx = none) (h3 : dx ≠ z) : Kp [] H (upd (upd H dx (.own z)) z (.ins C dx [])) :=
  (Kp.new h2).tr0 (Kp.new (by rw [upd_ne (Ne.symm h3)]; exact h1))
/-- o.f = v -/
theorem xs_fld {X : Cx} {o value : Expr} {f : Str} {p1 pos : Pos} {σ : St} {H : Hp} {nx : St → Hp → Prop} {D : B3} (h : XE X value σ H fun y H1 => XE X o σ H1 fun z H2 => ∃ a C dx fs, z = .ref a ∧ H2 a = some (.ins C dx fs) ∧ Cls X.K C ∧ NoAttr X.K C f ∧ fs.length < 1000 ∧ ∀ H', Kp [a] H2 H' → H' a = some (.ins C dx (putF f y fs)) → nx σ H')
    (hs : swapsWith value (some (.Attribute o f p1)) pos.line X.env = pure false := by rfl) : XS X (.Assign [.Attribute o f p1] value pos) nx D σ H := by
  refine ⟨_, ps_fld XE.pe XE.pe hs, ?_⟩
  refine XE.mono h fun y H1 h => XE.mono h fun z H2 ⟨a, C, dx, fs, e, ha, c, n, l, q⟩ => ⟨a, C, dx, fs, e, ha, c, n, l, ?_⟩
  exact q _ (Kp.set ha rfl) upd_same

end

/-! ## data of any depth -/
theorem canLay_ints : ∀ ns : List Int, PyData.canLayAll0 (ns.map PyData.int) = true
  | [] => by simp [PyData.canLayAll0]
  | n :: ns => by simp [PyData.canLayAll0, PyData.canLay0, canLay_ints ns]
theorem depth_ints : ∀ ns : List Int, PyData.depthAll (ns.map PyData.int) = 0
  | [] => by simp [PyData.depthAll]
  | n :: ns => by simp [PyData.depthAll, PyData.depth, depth_ints ns]
theorem shT (ns : List Int) : SeqAt.shaped (.tuple (ns.map PyData.int)) = true := by simp [SeqAt.shaped, PyData.canLay0, PyData.depth, canLay_ints, depth_ints]
theorem shL (ns : List Int) : SeqAt.shaped (.list (ns.map PyData.int)) = true := by simp [SeqAt.shaped, PyData.canLay0, PyData.depth, canLay_ints, depth_ints]
theorem dpAll_ints {K : PySem.W.Frag} {H : Hp} : ∀ ns : List Int, DpAll K H (ns.map V.int) (ns.map PyData.int)
  | [] => .nil
  | n :: ns => .cons (.int n) (dpAll_ints ns)
theorem dp_T {K : PySem.W.Frag} {H : Hp} {p : Addr} {ns : List Int} (h : SqT K H p (ns.map V.int)) : Dp K H (.ref p) (.tuple (ns.map PyData.int)) := .tup h (dpAll_ints ns)
theorem dp_L {K : PySem.W.Frag} {H : Hp} {p : Addr} {ns : List Int} (h : SqL K H p (ns.map V.int)) : Dp K H (.ref p) (.list (ns.map PyData.int)) := .lst h (dpAll_ints ns)
mutual
theorem dp_kp {K : PySem.W.Frag} {H H' : Hp} (k : Kp [] H H') : ∀ {d : PyData} {v : V}, Dp K H v d → Dp K H' v d
  | _, _, .non => .non
  | _, _, .bl b => .bl b
  | _, _, .int i => .int i
  | _, _, .str x => .str x
  | _, _, .lst h a => .lst (k.lst0 h) (dpAll_kp k a)
  | _, _, .tup h a => .tup (k.tup h) (dpAll_kp k a)
theorem dpAll_kp {K : PySem.W.Frag} {H H' : Hp} (k : Kp [] H H') : ∀ {ds : List PyData} {vs : List V}, DpAll K H vs ds → DpAll K H' vs ds
  | _, _, .nil => .nil
  | _, _, .cons h a => .cons (dp_kp k h) (dpAll_kp k a)
end
theorem eqv_T (ns ms : List Int) : PyData.eqv (.tuple (ns.map PyData.int)) (.tuple (ms.map PyData.int)) = decide (ns = ms) := by rw [PyData.eqv, PySem.W.ked_eqvAll]
theorem eqv_L (ns ms : List Int) : PyData.eqv (.list (ns.map PyData.int)) (.list (ms.map PyData.int)) = decide (ns = ms) := by rw [PyData.eqv, PySem.W.ked_eqvAll]
section
variable {X : Cx} {σ : St} {H : Hp} {Q : VK} {N Vs Ls G : List Str} {k : Nat} {sc : Scope} {v u : V} {d e : PyData} {p q : Addr} {ns ms : List Int}
theorem vo_eqD (C : Ctx X sc N Vs Ls G k) (hd : Dp X.K H v d) (he : Dp X.K H u e) (sd : SeqAt.shaped d = true) (se : SeqAt.shaped e = true) (h : Q (.bl (PyData.eqv d e)) H) : VO X (compareOp .Eq) v u H Q := ⟨_, op_eqD C.room.units, d, e, hd, he, sd, se, h⟩
theorem vo_neD (C : Ctx X sc N Vs Ls G k) (hd : Dp X.K H v d) (he : Dp X.K H u e) (sd : SeqAt.shaped d = true) (se : SeqAt.shaped e = true) (h : Q (.bl (!PyData.eqv d e)) H) : VO X (compareOp .NotEq) v u H Q := ⟨_, op_neD C.room.units, d, e, hd, he, sd, se, h⟩
theorem vo_eqSame (C : Ctx X sc N Vs Ls G k) (hd : Dp X.K H v d) (he : Dp X.K H u d) (sd : SeqAt.shaped d = true) (h : Q (.bl true) H) : VO X (compareOp .Eq) v u H Q := vo_eqD C hd he sd sd (by rw [SeqAt.eqv_refl d (SeqAt.canLay_of_shaped sd)]; exact h)
theorem vo_neSame (C : Ctx X sc N Vs Ls G k) (hd : Dp X.K H v d) (he : Dp X.K H u d) (sd : SeqAt.shaped d = true) (h : Q (.bl false) H) : VO X (compareOp .NotEq) v u H Q := vo_neD C hd he sd sd (by rw [SeqAt.eqv_refl d (SeqAt.canLay_of_shaped sd)]; exact h)
theorem vo_eqT (C : Ctx X sc N Vs Ls G k) (hd : SqT X.K H p (ns.map V.int)) (he : SqT X.K H q (ms.map V.int)) (h : Q (.bl (decide (ns = ms))) H) : VO X (compareOp .Eq) (.ref p) (.ref q) H Q := vo_eqD C (dp_T hd) (dp_T he) (shT _) (shT _) (by rw [eqv_T]; exact h)
theorem vo_neT (C : Ctx X sc N Vs Ls G k) (hd : SqT X.K H p (ns.map V.int)) (he : SqT X.K H q (ms.map V.int)) (h : Q (.bl (!decide (ns = ms))) H) : VO X (compareOp .NotEq) (.ref p) (.ref q) H Q := vo_neD C (dp_T hd) (dp_T he) (shT _) (shT _) (by rw [eqv_T]; exact h)
theorem vo_eqI (C : Ctx X sc N Vs Ls G k) (hd : SqL X.K H p (ns.map V.int)) (he : SqL X.K H q (ms.map V.int)) (h : Q (.bl (decide (ns = ms))) H) : VO X (compareOp .Eq) (.ref p) (.ref q) H Q := vo_eqD C (dp_L hd) (dp_L he) (shL _) (shL _) (by rw [eqv_L]; exact h)
theorem vo_neI (C : Ctx X sc N Vs Ls G k) (hd : SqL X.K H p (ns.map V.int)) (he : SqL X.K H q (ms.map V.int)) (h : Q (.bl (!decide (ns = ms))) H) : VO X (compareOp .NotEq) (.ref p) (.ref q) H Q := vo_neD C (dp_L hd) (dp_L he) (shL _) (shL _) (by rw [eqv_L]; exact h)
end

/-- the body of a for, of a while -/
def forBody : Stmt → List Stmt
  | .For _ _ b _ _ => b
  | .While _ b _ _ => b
  | _ => []
/-- what a return returns -/
def retE : Stmt → Expr
  | .Return (some e) _ => e
  | _ => .Constant .none 0 ⟨0, 0, 0, 0⟩
def ifBody : Stmt → List Stmt
  | .If _ b _ _ => b
  | _ => []
def ifElse : Stmt → List Stmt
  | .If _ _ b _ => b
  | _ => []
/-! ## a list or a tuple; types -/
def Sq (K : PySem.W.Frag) (H : Hp) (p : Addr) (xs : List V) : Prop := SqL K H p xs ∨ SqT K H p xs
theorem vc_lenS {X : Cx} {H : Hp} {Q : VK} {p : Addr} {xs : List V} (hx : Sq X.K H p xs) (h : Q (.int xs.length) H) : VC X (.builtin "len") [.ref p] H Q := hx.elim (fun z => vc_lenL z h) fun z => vc_lenT z h
theorem vx_S {X : Cx} {H : Hp} {Q : VK} {p : Addr} {xs : List V} {i : Int} {v : V} (hx : Sq X.K H p xs) (hi : atI xs i = some v) (h : Q v H) : VX X (.ref p) (.int i) H Q := hx.elim (fun z => vx_lst z hi h) fun z => vx_tup z hi h
theorem ty_T {K : PySem.W.Frag} {H : Hp} {p : Addr} {xs : List V} (h : SqT K H p xs) : TyX K H (.ref p) (.type "tuple") := by
  rcases h with (h | ⟨o, h⟩) | ⟨o, its, n, h1, h2, _⟩
  · exact .base (.tup h)
  · exact .fTuple h
  · exact .kTuple h1 h2
theorem ty_L {K : PySem.W.Frag} {H : Hp} {p : Addr} {xs : List V} (h : SqL K H p xs) : TyX K H (.ref p) (.type "list") := by
  rcases h with (h | ⟨o, h⟩) | ⟨o, its, n, h1, h2, _⟩
  · exact .base (.lst h)
  · exact .base (.frz h)
  · exact .kList h1 h2
theorem dpAll_len {K : PySem.W.Frag} {H : Hp} : ∀ {vs : List V} {ds : List PyData}, DpAll K H vs ds → vs.length = ds.length
  | _, _, .nil => rfl
  | _, _, .cons _ a => by rw [List.length_cons, List.length_cons, dpAll_len a]
theorem dpAll_at {K : PySem.W.Frag} {H : Hp} : ∀ {vs : List V} {ds : List PyData} {i : Nat} {d : PyData}, DpAll K H vs ds → ds[i]? = some d → ∃ v, vs[i]? = some v ∧ Dp K H v d
  | _, _, _, _, .nil, e => by simp at e
  | _, _, 0, _, .cons h _, e => ⟨_, rfl, by simp at e; rw [← e]; exact h⟩
  | _, _, i + 1, _, .cons _ a, e => by
    obtain ⟨v, h1, h2⟩ := dpAll_at (i := i) a (by simpa using e)
    exact ⟨v, by simpa using h1, h2⟩
theorem depth_at : ∀ {ds : List PyData} {i : Nat} {d : PyData}, ds[i]? = some d → PyData.depth d ≤ PyData.depthAll ds
  | [], _, _, e => by simp at e
  | x :: xs, 0, d, e => by
    have e' : x = d := by simpa using e
    rw [PyData.depthAll, e']; omega
  | x :: xs, i + 1, d, e => by
    have := depth_at (ds := xs) (i := i) (d := d) (by simpa using e)
    rw [PyData.depthAll]; omega

/-! ## small things of tests -/
theorem ite_d {p A B : Prop} [Decidable p] (h1 : p → A) (h2 : ¬ p → B) : if decide p = true then A else B := by
  by_cases h : p
  · rw [if_pos (decide_eq_true h)]; exact h1 h
  · rw [if_neg (by simp [h])]; exact h2 h
theorem ite_nd {p A B : Prop} [Decidable p] (h1 : ¬ p → A) (h2 : p → B) : if (!decide p) = true then A else B := by
  by_cases h : p
  · rw [if_neg (by simp [h])]; exact h2 h
  · rw [if_pos (by simp [h])]; exact h1 h
theorem ite_b {c : Bool} {A B : Prop} (h1 : c = true → A) (h2 : c = false → B) : if c = true then A else B := by
  cases c with
  | true => exact iteT (h1 rfl)
  | false => exact iteF (h2 rfl)
theorem ite_NT {A B : Prop} (h : B) : if (!true) = true then A else B := h
theorem ite_NF {A B : Prop} (h : A) : if (!false) = true then A else B := h
theorem ex_bl {c : Bool} {R : Bool → Prop} (h : R c) : ∃ k, V.bl c = V.bl k ∧ R k := ⟨c, rfl, h⟩
theorem tr_bl {K : PySem.W.Frag} {c : Bool} {H : Hp} {R : Bool → Prop} (h : R c) : ∃ k, TruV K (.bl c) H k ∧ R k := ⟨c, rfl, h⟩
theorem at0 {α : Type} {a : α} {l : List α} : atI (a :: l) 0 = some a := atI_nat (j := 0) rfl
theorem at1 {α : Type} {a b : α} {l : List α} : atI (a :: b :: l) 1 = some b := atI_nat (j := 1) rfl
theorem at2 {α : Type} {a b c : α} {l : List α} : atI (a :: b :: c :: l) 2 = some c := atI_nat (j := 2) rfl
theorem at3 {α : Type} {a b c d : α} {l : List α} : atI (a :: b :: c :: d :: l) 3 = some d := atI_nat (j := 3) rfl
theorem at4 {α : Type} {a b c d e : α} {l : List α} : atI (a :: b :: c :: d :: e :: l) 4 = some e := atI_nat (j := 4) rfl
theorem at5 {α : Type} {a b c d e f : α} {l : List α} : atI (a :: b :: c :: d :: e :: f :: l) 5 = some f := atI_nat (j := 5) rfl
theorem ix0 {n : Nat} : ixN (n + 1) 0 = some 0 := by
  unfold ixN; rw [if_pos (by decide), if_pos (by omega)]; rfl
theorem ix1 {n : Nat} : ixN (n + 2) 1 = some 1 := by
  unfold ixN; rw [if_pos (by decide), if_pos (by omega)]; rfl
theorem sz_ {n : Nat} (h : n ≤ 100000) : n ≤ sizeLine := Nat.le_trans h (by decide)
theorem szl {n : Nat} (h : n < 100000) : n < sizeLine := Nat.lt_of_lt_of_le h (by decide)
theorem sz_lt_ {n : Nat} (h : n < 100000) : n < sizeLine := szl h
theorem cmulL {i j : Int} (h : -(2 ^ 64) < i ∧ i < 2 ^ 64) : CMul i j := .inl h
theorem cmulR {i j : Int} (h : -(2 ^ 64) < j ∧ j < 2 ^ 64) : CMul i j := .inr h
theorem map_at {ns : List Int} {i : Nat} {y : V} (h : (ns.map V.int)[i]? = some y) : ∃ n, ns[i]? = some n ∧ y = .int n := by
  rw [List.getElem?_map] at h
  cases e : ns[i]? with
  | none => rw [e] at h; cases h
  | some n => rw [e] at h; exact ⟨n, rfl, (Option.some.inj h).symm⟩
theorem at_map {ns : List Int} {i : Int} {n : Int} (h0 : 0 ≤ i) (h : ns[i.toNat]? = some n) : atI (ns.map V.int) i = some (.int n) := by
  have e : i = (i.toNat : Int) := by omega
  rw [e]; exact atI_nat (by rw [List.getElem?_map, h]; rfl)

section
variable {X : Cx} {H : Hp} {Q : VK} {p : Addr} {a b c d e f : V} {l : List V}
theorem vx_t0 (hx : SqT X.K H p (a :: l)) (h : Q a H) : VX X (.ref p) (.int 0) H Q := vx_tup hx at0 h
theorem vx_t1 (hx : SqT X.K H p (a :: b :: l)) (h : Q b H) : VX X (.ref p) (.int 1) H Q := vx_tup hx at1 h
theorem vx_t2 (hx : SqT X.K H p (a :: b :: c :: l)) (h : Q c H) : VX X (.ref p) (.int 2) H Q := vx_tup hx at2 h
theorem vx_t3 (hx : SqT X.K H p (a :: b :: c :: d :: l)) (h : Q d H) : VX X (.ref p) (.int 3) H Q := vx_tup hx at3 h
theorem vx_t4 (hx : SqT X.K H p (a :: b :: c :: d :: e :: l)) (h : Q e H) : VX X (.ref p) (.int 4) H Q := vx_tup hx at4 h
theorem vx_t5 (hx : SqT X.K H p (a :: b :: c :: d :: e :: f :: l)) (h : Q f H) : VX X (.ref p) (.int 5) H Q := vx_tup hx at5 h
theorem vx_l0 (hx : SqL X.K H p (a :: l)) (h : Q a H) : VX X (.ref p) (.int 0) H Q := vx_lst hx at0 h
theorem vx_l1 (hx : SqL X.K H p (a :: b :: l)) (h : Q b H) : VX X (.ref p) (.int 1) H Q := vx_lst hx at1 h
theorem vx_l2 (hx : SqL X.K H p (a :: b :: c :: l)) (h : Q c H) : VX X (.ref p) (.int 2) H Q := vx_lst hx at2 h
theorem vx_l3 (hx : SqL X.K H p (a :: b :: c :: d :: l)) (h : Q d H) : VX X (.ref p) (.int 3) H Q := vx_lst hx at3 h
end
/-! ## facts that a frame of new things carries over -/
theorem Kp.lstN {K : PySem.W.Frag} {A : List Addr} {H H' : Hp} {p : Addr} {xs : List V} (a : Kp A H H') (n : ∀ l ∈ A, H l = none) (h : SqL K H p xs) : SqL K H' p xs := by
  rcases h with (h | ⟨o, h⟩) | h
  · exact .inl (.inl (a.k _ _ (fun m => by rw [n _ m] at h; cases h) h))
  · exact .inl (.inr ⟨o, a.z _ _ _ h⟩)
  · exact .inr h
theorem Kp.atN {A : List Addr} {H H' : Hp} {p : Addr} {o : HO} (a : Kp A H H') (n : ∀ l ∈ A, H l = none) (h : H p = some o) : H' p = some o := a.k _ _ (fun m => by rw [n _ m] at h; cases h) h
mutual
theorem dp_kpN {K : PySem.W.Frag} {A : List Addr} {H H' : Hp} (k : Kp A H H') (n : ∀ l ∈ A, H l = none) : ∀ {d : PyData} {v : V}, Dp K H v d → Dp K H' v d
  | _, _, .non => .non
  | _, _, .bl b => .bl b
  | _, _, .int i => .int i
  | _, _, .str x => .str x
  | _, _, .lst h a => .lst (k.lstN n h) (dpAll_kpN k n a)
  | _, _, .tup h a => .tup (k.tup h) (dpAll_kpN k n a)
theorem dpAll_kpN {K : PySem.W.Frag} {A : List Addr} {H H' : Hp} (k : Kp A H H') (n : ∀ l ∈ A, H l = none) : ∀ {ds : List PyData} {vs : List V}, DpAll K H vs ds → DpAll K H' vs ds
  | _, _, .nil => .nil
  | _, _, .cons h a => .cons (dp_kpN k n h) (dpAll_kpN k n a)
end
class Car (H H' : Hp) (P : Prop) (P' : outParam Prop) : Prop where
  kp : ∀ {A : List Addr}, Kp A H H' → (∀ l ∈ A, H l = none) → P → P'
theorem car {H H' : Hp} {P P' : Prop} [c : Car H H' P P'] (k : Kp [] H H') (h : P) : P' := c.kp k (fun _ m => nomatch m) h
theorem carN {H H' : Hp} {P P' : Prop} {L : Addr} [c : Car H H' P P'] (k : Kp [L] H H') (n : H L = none) (h : P) : P' := c.kp k (fun l m => by rw [List.mem_singleton.mp m]; exact n) h
section
variable {H H' : Hp}
instance {K : PySem.W.Frag} {p : Addr} {xs : List V} : Car H H' (SqT K H p xs) (SqT K H' p xs) := ⟨fun k _ h => k.tup h⟩
instance {K : PySem.W.Frag} {p : Addr} {xs : List V} : Car H H' (SqL K H p xs) (SqL K H' p xs) := ⟨fun k n h => k.lstN n h⟩
instance {p : Addr} {o : HO} : Car H H' (H p = some o) (H' p = some o) := ⟨fun k n h => k.atN n h⟩
instance {K : PySem.W.Frag} {v : V} {d : PyData} : Car H H' (Dp K H v d) (Dp K H' v d) := ⟨fun k n h => dp_kpN k n h⟩
instance {K : PySem.W.Frag} {v : List V} {d : List PyData} : Car H H' (DpAll K H v d) (DpAll K H' v d) := ⟨fun k n h => dpAll_kpN k n h⟩
/-- a frame that is not searched -/
def Fr (A : List Addr) (H H' : Hp) : Prop := Kp A H H'
theorem Fr.k {A : List Addr} {H H' : Hp} (h : Fr A H H') : Kp A H H' := h
instance {A : List Addr} {H0 : Hp} : Car H H' (Fr A H0 H) (Fr A H0 H') := ⟨fun k n h => (h.k.tr k fun l m => .inr (h.k.n _ (n l m)) : Kp A H0 H')⟩
instance {A : List Addr} {H0 : Hp} : Car H H' (Kp A H0 H ∧ True) (Kp A H0 H' ∧ True) := ⟨fun k n h => ⟨h.1.tr k fun l m => .inr (h.1.n _ (n l m)), trivial⟩⟩
end

end Z
/-! ## the walk: "m" a name is there, "a" its value, "u" its store, "kp" what still stands, "s" one step, "w" many -/

set_option hygiene false
local macro_rules | `(tactic| wtm_at "m") => `(tactic| first | with_reducible exact Z.Mem.z | (with_reducible refine Z.Mem.s ?_; wtm_at "m") | fail)
local macro_rules | `(tactic| wtm_at "a") => `(tactic| first | with_reducible exact Z.At.z | ((with_reducible show Z.At (_ :: _) _ _ _); with_reducible exact Z.At.s (by wtm_at "a")) | fail)
local macro_rules | `(tactic| wtm_at "u") => `(tactic| first | with_reducible exact Z.Put.z | ((with_reducible show Z.Put (_ :: _) _ _ _ _); with_reducible exact Z.Put.s (by wtm_at "u")) | fail)
local macro_rules | `(tactic| wtm_at "kq") => `(tactic| first | with_reducible assumption | ((with_reducible show SqT _ _ _ _); with_reducible exact Z.Kp.tup (by assumption) (by wtm_at "kq")) | ((with_reducible show SqL _ _ _ _); with_reducible exact Z.Kp.lst0 (by assumption) (by wtm_at "kq")) | ((with_reducible show SqT _ _ _ _); with_reducible exact Z.Kp.tup (Z.Fr.k hid) (by assumption)) | with_reducible exact Z.SqL.of' W.hw | with_reducible exact Z.SqL.of' W.h1 | with_reducible exact W.hm | ((with_reducible show _ = some _); with_reducible exact Z.Kp.at0 (by assumption) (by wtm_at "kq")) | ((with_reducible show SqL _ _ _ _); with_reducible exact Z.SqL.of' (by wtm_at "kq")) | ((with_reducible show SqT _ _ _ _); with_reducible exact Z.SqT.of' (by wtm_at "kq")) | fail)
local macro_rules | `(tactic| wtm_at "kp") => `(tactic| first | with_reducible assumption | ((with_reducible show SqT _ _ _ _); with_reducible exact Z.Kp.tup (by assumption) (by wtm_at "kp")) | ((with_reducible show SqL _ _ _ _); with_reducible exact Z.Kp.lst0 (by assumption) (by wtm_at "kp")) | ((with_reducible show SqT _ _ _ _); with_reducible exact Z.Kp.tup (Z.Fr.k hid) (by assumption)) | with_reducible exact Z.SqL.of' W.hw | with_reducible exact Z.SqL.of' W.h1 | with_reducible exact W.hm | ((with_reducible show _ = some _); with_reducible exact Z.Kp.at0 (by assumption) (by wtm_at "kp")) | ((with_reducible show SqL _ _ _ _); with_reducible exact Z.SqL.of' (by wtm_at "kp")) | ((with_reducible show SqT _ _ _ _); with_reducible exact Z.SqT.of' (by wtm_at "kp")) | assumption | fail)
/-! a statement or an expression, by its form; a value, by its form; facts that are there -/
local macro_rules | `(tactic| wtm_at "v") => `(tactic| first | ((with_reducible show Z.VX _ (L2.V.ref _) (L2.V.int 0) _ _); with_reducible refine Z.vx_t0 (by wtm_at "kq") ?_) | ((with_reducible show Z.VX _ (L2.V.ref _) (L2.V.int 1) _ _); with_reducible refine Z.vx_t1 (by wtm_at "kq") ?_) | ((with_reducible show Z.VX _ (L2.V.ref _) (L2.V.int 2) _ _); with_reducible refine Z.vx_t2 (by wtm_at "kq") ?_) | ((with_reducible show Z.VX _ (L2.V.ref _) (L2.V.int 3) _ _); with_reducible refine Z.vx_t3 (by wtm_at "kq") ?_) | ((with_reducible show Z.VX _ (L2.V.ref _) (L2.V.int 4) _ _); with_reducible refine Z.vx_t4 (by wtm_at "kq") ?_) | ((with_reducible show Z.VX _ (L2.V.ref _) (L2.V.int 5) _ _); with_reducible refine Z.vx_t5 (by wtm_at "kq") ?_) | ((with_reducible show Z.VX _ (L2.V.ref _) (L2.V.int 0) _ _); with_reducible refine Z.vx_l0 (by wtm_at "kq") ?_) | ((with_reducible show Z.VX _ (L2.V.ref _) (L2.V.int 1) _ _); with_reducible refine Z.vx_l1 (by wtm_at "kq") ?_) | ((with_reducible show Z.VX _ (L2.V.ref _) (L2.V.int 2) _ _); with_reducible refine Z.vx_l2 (by wtm_at "kq") ?_) | ((with_reducible show Z.VX _ (L2.V.ref _) (L2.V.int 3) _ _); with_reducible refine Z.vx_l3 (by wtm_at "kq") ?_) | ((with_reducible show Z.VC _ (PySem.Value.builtin "len") [L2.V.ref _] _ _); with_reducible refine Z.vc_lenL (by wtm_at "kq") ?_) | ((with_reducible show Z.VC _ (PySem.Value.builtin "len") [L2.V.ref _] _ _); with_reducible refine Z.vc_lenT (by wtm_at "kq") ?_) | ((with_reducible show Z.VT _ (L2.V.ref _) _ _); with_reducible refine Z.vt_tup (by wtm_at "kq") ?_) | ((with_reducible show Z.VT _ (L2.V.ref _) _ _); with_reducible refine Z.vt_lst (by wtm_at "kq") ?_) | ((with_reducible show Z.VO _ (PySem.binaryOp PySem.Operator.FloorDiv) _ _ _ _); refine Z.vo_fdiv (by exact ⟨by decide, by decide⟩) ?_) | ((with_reducible show Z.VO _ (PySem.binaryOp PySem.Operator.Mod) _ _ _ _); refine Z.vo_mod (by decide) ?_) | ((with_reducible show _ ∧ _); refine ⟨by exact Z.sz_ (by first | decide | (simp; done) | (simp; omega)), ?_⟩) | fail)
local macro_rules | `(tactic| wtm_at "d") => `(tactic| fail)
local macro_rules | `(tactic| wtm_at "s") => `(tactic| first | ((with_reducible show Z.XE _ _ _ _ _); first | ((with_reducible show Z.XE _ (PySem.Expr.Name _ _) _ _ _); first | ((with_reducible show Z.XE _ (PySem.Expr.Name _ _) _ _ _); refine Z.xe_var (by assumption) (by wtm_at "m") (by wtm_at "a") ?_) | wtm_at "d" | fail) | ((with_reducible show Z.XE _ (PySem.Expr.Constant _ _ _) _ _ _); first | with_reducible refine Z.xe_int ?_ | with_reducible refine Z.xe_bl ?_ | with_reducible refine Z.xe_non ?_ | wtm_at "d" | fail) | ((with_reducible show Z.XE _ (PySem.Expr.Call _ _ _ _) _ _ _); first | ((with_reducible show Z.XE _ (PySem.Expr.Call (PySem.Expr.Attribute _ "append" _) [_] [] _) _ _ _); refine Z.xe_append ?_) | wtm_at "d" | fail) | ((with_reducible show Z.XE _ (PySem.Expr.Subscript _ _ _) _ _ _); first | ((with_reducible show Z.XE _ (PySem.Expr.Subscript _ (PySem.Expr.Slice none none (some _) _) _) _ _ _); refine Z.xe_revL ?_) | ((with_reducible show Z.XE _ (PySem.Expr.Subscript _ (PySem.Expr.Slice _ _ none _) _) _ _ _); refine Z.xe_sl ?_) | ((with_reducible show Z.XE _ (PySem.Expr.Subscript _ _ _) _ _ _); refine Z.xe_ix ?_) | fail) | with_reducible refine Z.xe_bin ?_ | ((with_reducible show Z.XE _ (PySem.Expr.Compare _ [_] [_] _) _ _ _); refine Z.xe_cmp ?_) | with_reducible refine Z.xe_not ?_ | with_reducible refine Z.xe_un ?_ | with_reducible refine Z.xe_and ?_ | with_reducible refine Z.xe_or ?_ | with_reducible refine Z.xe_one ?_ | with_reducible refine Z.xe_tup ?_ | with_reducible refine Z.xe_lst ?_ | with_reducible refine Z.xe_ifExp ?_ | ((with_reducible show Z.XE _ (PySem.Expr.Compare _ [_, _] [_, _] _) _ _ _); refine Z.xe_chain ?_) | fail) | ((with_reducible show Z.VO _ _ _ _ _ _); first | with_reducible refine Z.vo_add ?_ | with_reducible refine Z.vo_sub ?_ | with_reducible refine Z.vo_lt ?_ | with_reducible refine Z.vo_le ?_ | with_reducible refine Z.vo_gt ?_ | with_reducible refine Z.vo_ge ?_ | with_reducible refine Z.vo_eq ?_ | with_reducible refine Z.vo_ne ?_ | with_reducible refine Z.vo_eqB ?_ | with_reducible refine Z.vo_neB ?_ | with_reducible refine Z.vo_isB ?_ | with_reducible refine Z.vo_isN ?_ | with_reducible refine Z.vo_notN ?_ | with_reducible refine Z.vo_notB ?_ | wtm_at "v" | fail) | ((with_reducible show Z.XS _ _ _ _ _ _); first | ((with_reducible show Z.XS _ (PySem.Stmt.Assign [PySem.Expr.Name _ _] _ _) _ _ _ _); (fail_if_success (with_reducible show Z.XS _ (PySem.Stmt.Assign [_] (PySem.Expr.ListComp _ _ _ _) _) _ _ _ _)); refine Z.xs_set (by assumption) ?_ (hx := by wtm_at "m") (hl := by wtm_at "m")) | with_reducible refine Z.xs_ret ?_ | ((with_reducible show Z.XS _ (PySem.Stmt.Expr _ _) _ _ _ _); refine Z.xs_expr ?_) | with_reducible refine Z.xs_if ?_ | with_reducible refine Z.xs_pass ?_ | with_reducible refine Z.xs_break ?_ | with_reducible refine Z.xs_cont ?_ | with_reducible refine Z.xs_retN ?_ | ((with_reducible show Z.XS _ (PySem.Stmt.AugAssign (PySem.Expr.Name _ _) _ _ _) _ _ _ _); refine Z.xs_aug (by assumption) (by wtm_at "a") (by wtm_at "m") ?_) | ((with_reducible show Z.XS _ (PySem.Stmt.Assign [PySem.Expr.Tuple _ _ _] (PySem.Expr.Call _ _ _ _) _) _ _ _ _); refine Z.xs_asg ?_) | ((with_reducible show Z.XS _ (PySem.Stmt.Assign [PySem.Expr.Tuple _ _ _] (PySem.Expr.IfExp _ _ _ _) _) _ _ _ _); refine Z.xs_asg ?_) | ((with_reducible show Z.XS _ (PySem.Stmt.Assign [PySem.Expr.Tuple _ _ _] (PySem.Expr.Name _ _) _) _ _ _ _); refine Z.xs_asg ?_) | fail) | ((with_reducible show Z.XB _ _ _ _ _ _); first | with_reducible refine Z.xb_cons ?_ | with_reducible refine Z.xb_nil ?_ | fail) | ((with_reducible show Z.XT _ _ _ _ _); first | ((with_reducible show Z.XT _ (PySem.Expr.Compare _ [_] [_] _) _ _ _); refine Z.xt_cmp ?_) | with_reducible refine Z.xt_bool ?_ | with_reducible refine Z.xt_not ?_ | ((with_reducible show Z.XT _ (PySem.Expr.Compare _ [_, _] [_, _] _) _ _ _); refine Z.xt_chain ?_) | ((with_reducible show Z.XT _ (PySem.Expr.Call _ _ _ _) _ _ _); refine Z.xt_val ?_) | ((with_reducible show Z.XT _ (PySem.Expr.Name _ _) _ _ _); refine Z.xt_val ?_) | ((with_reducible show Z.XT _ (PySem.Expr.Subscript _ _ _) _ _ _); refine Z.xt_val ?_) | ((with_reducible show Z.XT _ (PySem.Expr.Attribute _ _ _) _ _ _); refine Z.xt_val ?_) | ((with_reducible show Z.XT _ (PySem.Expr.Constant _ _ _) _ _ _); refine Z.xt_val ?_) | fail) | ((with_reducible show Z.VX _ _ _ _ _); first | wtm_at "v" | fail) | ((with_reducible show Z.VC _ _ _ _ _); first | with_reducible refine Z.vc_intB ?_ | with_reducible refine Z.vc_int ?_ | with_reducible refine Z.vc_abs ?_ | wtm_at "v" | fail) | ((with_reducible show Z.XA _ _ _ _ _); first | ((with_reducible show Z.XA _ (PySem.Expr.Starred _ _ :: _) _ _ _); refine Z.xa_star ?_) | ((with_reducible show Z.XA _ (_ :: _) _ _ _); refine Z.xa_cons ?_) | with_reducible refine Z.xa_nil ?_ | fail) | ((with_reducible show Z.VT _ _ _ _); first | with_reducible refine Z.vt_bl ?_ | with_reducible refine Z.vt_int ?_ | wtm_at "v" | fail) | ((with_reducible show Z.XW _ _ _ _ _); first | with_reducible refine Z.xw_and ?_ | with_reducible refine Z.xw_and1 ?_ | with_reducible refine Z.xw_or ?_ | with_reducible refine Z.xw_or1 ?_ | fail) | ((with_reducible show Z.XO _ _ _ _ _); first | with_reducible refine Z.xo_none ?_ | with_reducible refine Z.xo_some ?_ | fail) | ((with_reducible show Z.XG _ _ _ _ _ _); first | ((with_reducible show Z.XG _ (PySem.Expr.Name _ _) _ _ _ _); refine Z.xg_name (by assumption) (by wtm_at "m") (by wtm_at "m") ?_) | fail) | ((with_reducible show Z.XGs _ _ _ _ _ _); first | ((with_reducible show Z.XGs _ (_ :: _) _ _ _ _); refine Z.xgs_cons ?_) | with_reducible refine Z.xgs_nil ?_ | fail) | ((with_reducible show Z.VU _ _ _ _ _); first | with_reducible refine Z.vu_neg ?_ | fail) | ((with_reducible show Z.VIp _ _ _ _ _ _); first | with_reducible refine Z.vip_add ?_ | with_reducible refine Z.vip_sub ?_ | fail) | with_reducible refine Z.ex_bl ?_ | ((with_reducible show ∃ i, L2.V.int _ = L2.V.int i ∧ _); refine ⟨_, rfl, ?_⟩) | with_reducible refine L2.iteT ?_ | with_reducible refine L2.iteF ?_ | with_reducible refine Z.ite_NT ?_ | with_reducible refine Z.ite_NF ?_ | ((with_reducible show ∃ l xs, L2.V.ref _ = L2.V.ref l ∧ _ ∧ Z.XE _ _ _ _ _); refine ⟨_, _, rfl, by wtm_at "kp", ?_⟩) | ((with_reducible show ∃ _, Z.Put _ _ _ _ _ ∧ _); refine ⟨_, by wtm_at "u", ?_⟩) | ((with_reducible show _ ∧ _); wtm_at "v") | fail)
local macro_rules | `(tactic| wtm_at "w") => `(tactic| repeat wtm_at "s")
local macro_rules | `(tactic| wtm_at "ws") => `(tactic| repeat (first | wtm_at "s" | with_reducible refine Z.xe_str ?_ | with_reducible refine Law.vo_eqS ?_ | with_reducible refine Law.vo_neS ?_ | fail))


namespace Law
open PySem
open L2 hiding XE
open Z
def topS (i : Nat) : Stmt := PySem.Challenge.pw_sealround_k55_windows.main.body.getD i (.Pass ⟨0, 0, 0, 0⟩)
abbrev s_digest : Stmt := topS 6
theorem sc_digest : FnScope ["mixing", "row", "state", "number"] ["mixing", "row"] (defScope s_digest) := ⟨rfl, rfl, rfl, by decide +kernel, rfl, by decide +kernel, by decide +kernel⟩
theorem oc_digest : okC (defScope s_digest) ["mixing", "row", "state", "number"] ["mixing", "row", "state", "number"] ["_mixed", "len"] = true := by decide +kernel
abbrev s__mixed : Stmt := topS 7
theorem sc__mixed : FnScope ["mixing", "state", "number"] ["mixing", "state", "number"] (defScope s__mixed) := ⟨rfl, rfl, rfl, by decide +kernel, rfl, by decide +kernel, by decide +kernel⟩
theorem oc__mixed : okC (defScope s__mixed) ["mixing", "state", "number"] ["mixing", "state", "number"] ["PRIME"] = true := by decide +kernel
abbrev s_is_thing : Stmt := topS 13
theorem sc_is_thing : FnScope ["row", "kind"] ["row"] (defScope s_is_thing) := ⟨rfl, rfl, rfl, by decide +kernel, rfl, by decide +kernel, by decide +kernel⟩
theorem oc_is_thing : okC (defScope s_is_thing) ["row", "kind"] ["row", "kind"] ["BEACON", "len", "DOCUMENT", "_is_document", "HEAD", "_is_head", "RENEWAL"] = true := by decide +kernel
abbrev s__is_document : Stmt := topS 14
theorem sc__is_document : FnScope ["row"] ["row"] (defScope s__is_document) := ⟨rfl, rfl, rfl, by decide +kernel, rfl, by decide +kernel, by decide +kernel⟩
theorem oc__is_document : okC (defScope s__is_document) ["row"] ["row"] ["len"] = true := by decide +kernel
abbrev s__is_head : Stmt := topS 15
theorem sc__is_head : FnScope ["row", "number", "count"] ["row"] (defScope s__is_head) := ⟨rfl, rfl, rfl, by decide +kernel, rfl, by decide +kernel, by decide +kernel⟩
theorem oc__is_head : okC (defScope s__is_head) ["row", "number", "count"] ["row", "number", "count"] ["len", "_back_count"] = true := by decide +kernel
abbrev s_is_thing_of : Stmt := topS 16
theorem sc_is_thing_of : FnScope ["row", "kind"] ["row", "kind"] (defScope s_is_thing_of) := ⟨rfl, rfl, rfl, by decide +kernel, rfl, by decide +kernel, by decide +kernel⟩
theorem oc_is_thing_of : okC (defScope s_is_thing_of) ["row", "kind"] ["row", "kind"] ["is_thing", "kind_of"] = true := by decide +kernel
abbrev s_kind_of : Stmt := topS 17
theorem sc_kind_of : FnScope ["row"] ["row"] (defScope s_kind_of) := ⟨rfl, rfl, rfl, by decide +kernel, rfl, by decide +kernel, by decide +kernel⟩
theorem oc_kind_of : okC (defScope s_kind_of) ["row"] ["row"] [] = true := by decide +kernel
abbrev s__back_count : Stmt := topS 18
theorem sc__back_count : FnScope ["number"] ["number"] (defScope s__back_count) := ⟨rfl, rfl, rfl, by decide +kernel, rfl, by decide +kernel, by decide +kernel⟩
theorem oc__back_count : okC (defScope s__back_count) ["number"] ["number"] ["_greatest_step"] = true := by decide +kernel
abbrev s__greatest_step : Stmt := topS 19
theorem sc__greatest_step : FnScope ["number"] ["number"] (defScope s__greatest_step) := ⟨rfl, rfl, rfl, by decide +kernel, rfl, by decide +kernel, by decide +kernel⟩
theorem oc__greatest_step : okC (defScope s__greatest_step) ["number"] ["number"] [] = true := by decide +kernel
abbrev s__first_count : Stmt := topS 22
theorem sc__first_count : FnScope ["count"] ["count"] (defScope s__first_count) := ⟨rfl, rfl, rfl, by decide +kernel, rfl, by decide +kernel, by decide +kernel⟩
theorem oc__first_count : okC (defScope s__first_count) ["count"] ["count"] [] = true := by decide +kernel
abbrev s_turns : Stmt := topS 23
theorem sc_turns : FnScope ["count", "index", "found", "size", "at", "middle", "in_second"] ["count", "index"] (defScope s_turns) := ⟨rfl, rfl, rfl, by decide +kernel, rfl, by decide +kernel, by decide +kernel⟩
theorem oc_turns : okC (defScope s_turns) ["count", "index", "found", "size", "at", "middle", "in_second"] ["count", "index", "found", "size", "at", "middle", "in_second"] ["_first_count"] = true := by decide +kernel
abbrev s_climb : Stmt := topS 24
theorem sc_climb : FnScope ["mixing", "count", "index", "entry", "way", "nodes"] ["mixing", "count", "index", "entry", "way"] (defScope s_climb) := ⟨rfl, rfl, rfl, by decide +kernel, rfl, by decide +kernel, by decide +kernel⟩
theorem oc_climb : okC (defScope s_climb) ["mixing", "count", "index", "entry", "way", "nodes"] ["mixing", "count", "index", "entry", "way", "nodes"] ["len", "turns", "_nodes_up", "digest"] = true := by decide +kernel
abbrev s__nodes_up : Stmt := topS 25
theorem sc__nodes_up : FnScope ["mixing", "count", "index", "entry", "way", "nodes", "below", "in_second", "beside", "node"] ["mixing", "count", "index", "entry", "way"] (defScope s__nodes_up) := ⟨rfl, rfl, rfl, by decide +kernel, rfl, by decide +kernel, by decide +kernel⟩
theorem oc__nodes_up : okC (defScope s__nodes_up) ["mixing", "count", "index", "entry", "way", "nodes", "below", "in_second", "beside", "node"] ["mixing", "count", "index", "entry", "way", "nodes", "below", "in_second", "beside", "node"] ["zip", "turns", "NODE", "digest"] = true := by decide +kernel
abbrev s_listed : Stmt := topS 30
theorem sc_listed : FnScope ["row", "word", "kind"] ["row", "word"] (defScope s_listed) := ⟨rfl, rfl, rfl, by decide +kernel, rfl, by decide +kernel, by decide +kernel⟩
theorem oc_listed : okC (defScope s_listed) ["row", "word", "kind"] ["row", "word", "kind"] ["kind_of", "CITE", "DOCUMENT", "BACK", "HEAD"] = true := by decide +kernel
abbrev s_has_place : Stmt := topS 31
theorem sc_has_place : FnScope ["row", "place", "word", "index"] ["row", "place"] (defScope s_has_place) := ⟨rfl, rfl, rfl, by decide +kernel, rfl, by decide +kernel, by decide +kernel⟩
theorem oc_has_place : okC (defScope s_has_place) ["row", "place", "word", "index"] ["row", "place", "word", "index"] ["ENTRY", "kind_of", "HEAD", "len", "listed"] = true := by decide +kernel
abbrev s_held_at : Stmt := topS 32
theorem sc_held_at : FnScope ["mixing", "row", "place", "word", "index"] ["mixing", "row", "place"] (defScope s_held_at) := ⟨rfl, rfl, rfl, by decide +kernel, rfl, by decide +kernel, by decide +kernel⟩
theorem oc_held_at : okC (defScope s_held_at) ["mixing", "row", "place", "word", "index"] ["mixing", "row", "place", "word", "index"] ["ENTRY", "has_place", "listed"] = true := by decide +kernel
abbrev s_holds : Stmt := topS 33
theorem sc_holds : FnScope ["mixing", "row", "place", "digest", "_", "index", "way", "count", "root"] ["mixing", "row", "place", "digest"] (defScope s_holds) := ⟨rfl, rfl, rfl, by decide +kernel, rfl, by decide +kernel, by decide +kernel⟩
theorem oc_holds : okC (defScope s_holds) ["mixing", "row", "place", "digest", "_", "index", "way", "count", "root"] ["mixing", "row", "place", "digest", "_", "index", "way", "count", "root"] ["ENTRY", "held_at", "has_place", "climb"] = true := by decide +kernel
abbrev s_is_right_round : Stmt := topS 34
theorem sc_is_right_round : FnScope ["before", "row", "place", "word", "index", "service", "number", "hour", "before_service", "before_number", "before_hour", "wanted"] ["before", "row", "place"] (defScope s_is_right_round) := ⟨rfl, rfl, rfl, by decide +kernel, rfl, by decide +kernel, by decide +kernel⟩
theorem oc_is_right_round : okC (defScope s_is_right_round) ["before", "row", "place", "word", "index", "service", "number", "hour", "before_service", "before_number", "before_hour", "wanted"] ["before", "row", "place", "word", "index", "service", "number", "hour", "before_service", "before_number", "before_hour", "wanted"] ["BACK", "kind_of", "HEAD"] = true := by decide +kernel
abbrev s_is_accepted : Stmt := topS 37
theorem sc_is_accepted : FnScope ["mixing", "paper"] ["mixing", "paper"] (defScope s_is_accepted) := ⟨rfl, rfl, rfl, by decide +kernel, rfl, by decide +kernel, by decide +kernel⟩
theorem oc_is_accepted : okC (defScope s_is_accepted) ["mixing", "paper"] ["mixing", "paper"] ["_first_fault"] = true := by decide +kernel
abbrev s__first_fault : Stmt := topS 38
theorem sc__first_fault : FnScope ["mixing", "paper", "before", "step", "row", "place", "reason"] ["mixing", "paper"] (defScope s__first_fault) := ⟨rfl, rfl, rfl, by decide +kernel, rfl, by decide +kernel, by decide +kernel⟩
theorem oc__first_fault : okC (defScope s__first_fault) ["mixing", "paper", "before", "step", "row", "place", "reason"] ["mixing", "paper", "before", "step", "row", "place", "reason"] ["is_thing", "enumerate", "_fault_of_step"] = true := by decide +kernel
abbrev s__fault_of_step : Stmt := topS 39
theorem sc__fault_of_step : FnScope ["mixing", "before", "row", "place"] ["mixing", "before", "row", "place"] (defScope s__fault_of_step) := ⟨rfl, rfl, rfl, by decide +kernel, rfl, by decide +kernel, by decide +kernel⟩
theorem oc__fault_of_step : okC (defScope s__fault_of_step) ["mixing", "before", "row", "place"] ["mixing", "before", "row", "place"] ["is_thing", "has_place", "holds", "digest", "is_right_round"] = true := by decide +kernel
abbrev s_rows_of : Stmt := topS 40
theorem sc_rows_of : FnScope ["paper", "row", "_"] ["paper"] (defScope s_rows_of) := ⟨rfl, rfl, rfl, by decide +kernel, rfl, by decide +kernel, by decide +kernel⟩
theorem oc_rows_of : okC (defScope s_rows_of) ["paper"] ["paper"] [] = true := by decide +kernel
abbrev s_joined : Stmt := topS 41
theorem sc_joined : FnScope ["one", "two"] ["one", "two"] (defScope s_joined) := ⟨rfl, rfl, rfl, by decide +kernel, rfl, by decide +kernel, by decide +kernel⟩
theorem oc_joined : okC (defScope s_joined) ["one", "two"] ["one", "two"] ["Paper"] = true := by decide +kernel
abbrev s_window : Stmt := topS 44
theorem sc_window : FnScope ["notebook", "row", "papers", "earlier", "later"] ["notebook", "row", "papers"] (defScope s_window) := ⟨rfl, rfl, rfl, by decide +kernel, rfl, by decide +kernel, by decide +kernel⟩
theorem oc_window : okC (defScope s_window) ["notebook", "row", "papers", "earlier", "later"] ["notebook", "row", "papers", "earlier", "later"] ["_from_beacons", "_to_heads", "_window_of"] = true := by decide +kernel
abbrev s_foretold : Stmt := topS 45
theorem sc_foretold : FnScope ["notebook", "row", "papers", "earlier", "later", "lower", "upper"] ["notebook", "row", "papers"] (defScope s_foretold) := ⟨rfl, rfl, rfl, by decide +kernel, rfl, by decide +kernel, by decide +kernel⟩
theorem oc_foretold : okC (defScope s_foretold) ["notebook", "row", "papers", "earlier", "later", "lower", "upper"] ["notebook", "row", "papers", "earlier", "later", "lower", "upper"] ["_from_beacons", "_to_heads", "_window_of", "joined", "_first_of_hour"] = true := by decide +kernel
abbrev s__window_of : Stmt := topS 46
theorem sc__window_of : FnScope ["earlier", "later", "lower", "upper", "hour", "_"] ["earlier", "later"] (defScope s__window_of) := ⟨rfl, rfl, rfl, by decide +kernel, rfl, by decide +kernel, by decide +kernel⟩
theorem oc__window_of : okC (defScope s__window_of) ["earlier", "later", "lower", "upper"] ["earlier", "later", "lower", "upper"] ["max", "min"] = true := by decide +kernel
abbrev s__from_beacons : Stmt := topS 47
theorem sc__from_beacons : FnScope ["notebook", "row", "papers", "paper"] ["notebook", "row", "papers"] (defScope s__from_beacons) := ⟨rfl, rfl, rfl, by decide +kernel, rfl, by decide +kernel, by decide +kernel⟩
theorem oc__from_beacons : okC (defScope s__from_beacons) ["notebook", "row", "papers"] ["notebook", "row", "papers"] [] = true := by decide +kernel
abbrev s__to_heads : Stmt := topS 48
theorem sc__to_heads : FnScope ["notebook", "row", "papers", "found", "paper", "hour"] ["notebook", "row", "papers"] (defScope s__to_heads) := ⟨rfl, rfl, rfl, by decide +kernel, rfl, by decide +kernel, by decide +kernel⟩
theorem oc__to_heads : okC (defScope s__to_heads) ["notebook", "row", "papers", "found", "paper", "hour"] ["notebook", "row", "papers", "found", "paper", "hour"] ["rows_of", "is_accepted"] = true := by decide +kernel
abbrev s__first_of_hour : Stmt := topS 49
theorem sc__first_of_hour : FnScope ["hour", "found", "shown", "paper"] ["hour", "found"] (defScope s__first_of_hour) := ⟨rfl, rfl, rfl, by decide +kernel, rfl, by decide +kernel, by decide +kernel⟩
theorem oc__first_of_hour : okC (defScope s__first_of_hour) ["hour", "found", "shown", "paper"] ["hour", "found", "shown", "paper"] [] = true := by decide +kernel
abbrev s__law_cell : Stmt := topS 51
theorem sc__law_cell : FnScope ["script", "k"] ["script", "k"] (defScope s__law_cell) := ⟨rfl, rfl, rfl, by decide +kernel, rfl, by decide +kernel, by decide +kernel⟩
theorem oc__law_cell : okC (defScope s__law_cell) ["script", "k"] ["script", "k"] ["len"] = true := by decide +kernel
abbrev s__law_row : Stmt := topS 52
theorem sc__law_row : FnScope ["script", "first", "last", "row", "k", "cell", "turn"] ["script", "first", "last"] (defScope s__law_row) := ⟨rfl, rfl, rfl, by decide +kernel, rfl, by decide +kernel, by decide +kernel⟩
theorem oc__law_row : okC (defScope s__law_row) ["script", "first", "last", "row", "k", "cell", "turn"] ["script", "first", "last", "row", "k", "cell", "turn"] ["range", "_law_cell", "abs", "int"] = true := by decide +kernel
abbrev s__law_draw : Stmt := topS 53
theorem sc__law_draw : FnScope ["box", "many", "at"] ["box", "many"] (defScope s__law_draw) := ⟨rfl, rfl, rfl, by decide +kernel, rfl, by decide +kernel, by decide +kernel⟩
theorem oc__law_draw : okC (defScope s__law_draw) ["box", "many", "at"] ["box", "many", "at"] ["len", "int"] = true := by decide +kernel
abbrev s__law_is_integer : Stmt := topS 54
theorem sc__law_is_integer : FnScope ["told"] ["told"] (defScope s__law_is_integer) := ⟨rfl, rfl, rfl, by decide +kernel, rfl, by decide +kernel, by decide +kernel⟩
theorem oc__law_is_integer : okC (defScope s__law_is_integer) ["told"] ["told"] ["isinstance", "int", "bool"] = true := by decide +kernel
abbrev s__law_same : Stmt := topS 55
theorem sc__law_same : FnScope ["told", "due", "k"] ["told", "due"] (defScope s__law_same) := ⟨rfl, rfl, rfl, by decide +kernel, rfl, by decide +kernel, by decide +kernel⟩
theorem oc__law_same : okC (defScope s__law_same) ["told", "due", "k"] ["told", "due", "k"] ["isinstance", "bool", "int", "_law_is_integer", "str", "tuple", "list", "len", "range", "_law_same"] = true := by decide +kernel
abbrev s__law_mix : Stmt := topS 56
theorem sc__law_mix : FnScope ["box", "bound"] ["box"] (defScope s__law_mix) := ⟨rfl, rfl, rfl, by decide +kernel, rfl, by decide +kernel, by decide +kernel⟩
theorem oc__law_mix : okC (defScope s__law_mix) ["box", "bound"] ["box", "bound"] ["_law_draw"] = true := by decide +kernel
abbrev s__law_digest : Stmt := topS 57
theorem sc__law_digest : FnScope ["mix", "row", "prime", "state", "number"] ["mix", "row"] (defScope s__law_digest) := ⟨rfl, rfl, rfl, by decide +kernel, rfl, by decide +kernel, by decide +kernel⟩
theorem oc__law_digest : okC (defScope s__law_digest) ["mix", "row", "prime", "state", "number"] ["mix", "row", "prime", "state", "number"] ["int", "len"] = true := by decide +kernel
abbrev s__law_half : Stmt := topS 58
theorem sc__law_half : FnScope ["count", "k", "turn"] ["count"] (defScope s__law_half) := ⟨rfl, rfl, rfl, by decide +kernel, rfl, by decide +kernel, by decide +kernel⟩
theorem oc__law_half : okC (defScope s__law_half) ["count", "k", "turn"] ["count", "k", "turn"] ["range"] = true := by decide +kernel
abbrev s__law_root : Stmt := topS 59
theorem sc__law_root : FnScope ["mix", "entries", "k"] ["mix", "entries"] (defScope s__law_root) := ⟨rfl, rfl, rfl, by decide +kernel, rfl, by decide +kernel, by decide +kernel⟩
theorem oc__law_root : okC (defScope s__law_root) ["mix", "entries", "k"] ["mix", "entries", "k"] ["len", "_law_half", "_law_digest", "_law_root"] = true := by decide +kernel
abbrev s__law_way : Stmt := topS 60
theorem sc__law_way : FnScope ["mix", "entries", "index", "way", "rest", "turn", "k"] ["mix", "entries", "index"] (defScope s__law_way) := ⟨rfl, rfl, rfl, by decide +kernel, rfl, by decide +kernel, by decide +kernel⟩
theorem oc__law_way : okC (defScope s__law_way) ["mix", "entries", "index", "way", "rest", "turn", "k"] ["mix", "entries", "index", "way", "rest", "turn", "k"] ["list", "range", "len", "_law_half", "_law_root", "tuple"] = true := by decide +kernel
abbrev s__law_backs : Stmt := topS 61
theorem sc__law_backs : FnScope ["number", "out", "p", "turn"] ["number"] (defScope s__law_backs) := ⟨rfl, rfl, rfl, by decide +kernel, rfl, by decide +kernel, by decide +kernel⟩
theorem oc__law_backs : okC (defScope s__law_backs) ["number", "out", "p", "turn"] ["number", "out", "p", "turn"] ["range", "int"] = true := by decide +kernel
abbrev s__law_pool : Stmt := topS 62
theorem sc__law_pool : FnScope ["box", "mix", "things", "numbers", "thing"] ["box", "mix", "things"] (defScope s__law_pool) := ⟨rfl, rfl, rfl, by decide +kernel, rfl, by decide +kernel, by decide +kernel⟩
theorem oc__law_pool : okC (defScope s__law_pool) ["box", "mix", "things", "numbers", "thing"] ["box", "mix", "things", "numbers", "thing"] ["int", "_law_draw", "_law_digest"] = true := by decide +kernel
abbrev s__law_pick : Stmt := topS 63
theorem sc__law_pick : FnScope ["box", "numbers"] ["box", "numbers"] (defScope s__law_pick) := ⟨rfl, rfl, rfl, by decide +kernel, rfl, by decide +kernel, by decide +kernel⟩
theorem oc__law_pick : okC (defScope s__law_pick) ["box", "numbers"] ["box", "numbers"] ["_law_draw", "len"] = true := by decide +kernel
abbrev s__law_head : Stmt := topS 64
theorem sc__law_head : FnScope ["box", "mix", "things", "numbers", "service", "mine", "number", "entries", "backs", "earlier", "row", "found", "hour", "thing", "k"] ["box", "mix", "things", "numbers"] (defScope s__law_head) := ⟨rfl, rfl, rfl, by decide +kernel, rfl, by decide +kernel, by decide +kernel⟩
theorem oc__law_head : okC (defScope s__law_head) ["box", "mix", "things", "numbers", "service", "mine", "number", "entries", "backs", "earlier", "row", "found", "hour"] ["box", "mix", "things", "numbers", "service", "mine", "number", "entries", "backs", "earlier", "row", "found", "hour"] ["_law_draw", "len", "range", "_law_backs", "_law_pick", "_law_root", "tuple"] = true := by decide +kernel
abbrev s__law_thing : Stmt := topS 65
theorem sc__law_thing : FnScope ["box", "mix", "things", "numbers", "kind", "cites", "body", "k"] ["box", "mix", "things"] (defScope s__law_thing) := ⟨rfl, rfl, rfl, by decide +kernel, rfl, by decide +kernel, by decide +kernel⟩
theorem oc__law_thing : okC (defScope s__law_thing) ["box", "mix", "things", "numbers", "kind", "cites", "body"] ["box", "mix", "things", "numbers", "kind", "cites", "body"] ["_law_pool", "_law_draw", "range", "len", "tuple", "_law_pick", "_law_head"] = true := by decide +kernel
abbrev s__law_things : Stmt := topS 66
theorem sc__law_things : FnScope ["box", "mix", "many", "things", "k"] ["box", "mix", "many"] (defScope s__law_things) := ⟨rfl, rfl, rfl, by decide +kernel, rfl, by decide +kernel, by decide +kernel⟩
theorem oc__law_things : okC (defScope s__law_things) ["box", "mix", "many", "things", "k"] ["box", "mix", "many", "things", "k"] ["range", "_law_thing"] = true := by decide +kernel
abbrev s__law_places : Stmt := topS 67
theorem sc__law_places : FnScope ["mix", "thing", "before", "row", "number", "out", "i", "rounds"] ["mix", "thing", "before"] (defScope s__law_places) := ⟨rfl, rfl, rfl, by decide +kernel, rfl, by decide +kernel, by decide +kernel⟩
theorem oc__law_places : okC (defScope s__law_places) ["mix", "thing", "before", "row", "number", "out", "i", "rounds"] ["mix", "thing", "before", "row", "number", "out", "i", "rounds"] ["_law_digest", "range", "_law_backs", "len", "_law_way"] = true := by decide +kernel
abbrev s__law_walk : Stmt := topS 68
theorem sc__law_walk : FnScope ["box", "mix", "things", "first", "many", "rows", "steps", "turn", "able", "thing", "place", "step"] ["box", "mix", "things", "first", "many"] (defScope s__law_walk) := ⟨rfl, rfl, rfl, by decide +kernel, rfl, by decide +kernel, by decide +kernel⟩
theorem oc__law_walk : okC (defScope s__law_walk) ["box", "mix", "things", "first", "many", "rows", "steps", "turn", "able", "thing", "place", "step"] ["box", "mix", "things", "first", "many", "rows", "steps", "turn", "able", "thing", "place", "step"] ["range", "_law_places", "len", "_law_draw"] = true := by decide +kernel
abbrev s__law_paper : Stmt := topS 69
theorem sc__law_paper : FnScope ["first", "steps"] ["first", "steps"] (defScope s__law_paper) := ⟨rfl, rfl, rfl, by decide +kernel, rfl, by decide +kernel, by decide +kernel⟩
theorem oc__law_paper : okC (defScope s__law_paper) ["first", "steps"] ["first", "steps"] ["Paper", "list"] = true := by decide +kernel
abbrev s__law_papers : Stmt := topS 71
theorem sc__law_papers : FnScope ["box", "mix", "things", "wanted", "out", "turn", "first", "steps"] ["box", "mix", "things", "wanted"] (defScope s__law_papers) := ⟨rfl, rfl, rfl, by decide +kernel, rfl, by decide +kernel, by decide +kernel⟩
theorem oc__law_papers : okC (defScope s__law_papers) ["box", "mix", "things", "wanted", "out", "turn", "first", "steps"] ["box", "mix", "things", "wanted", "out", "turn", "first", "steps"] ["range", "_law_draw", "len", "_law_walk"] = true := by decide +kernel
abbrev s__law_last : Stmt := topS 72
theorem sc__law_last : FnScope ["shown", "step"] ["shown"] (defScope s__law_last) := ⟨rfl, rfl, rfl, by decide +kernel, rfl, by decide +kernel, by decide +kernel⟩
theorem oc__law_last : okC (defScope s__law_last) ["shown"] ["shown"] [] = true := by decide +kernel
abbrev s__law_due_parts : Stmt := topS 73
theorem sc__law_due_parts : FnScope ["mixing", "beacons", "heads", "row", "shown", "before", "after", "k", "paper"] ["mixing", "beacons", "heads", "row", "shown"] (defScope s__law_due_parts) := ⟨rfl, rfl, rfl, by decide +kernel, rfl, by decide +kernel, by decide +kernel⟩
theorem oc__law_due_parts : okC (defScope s__law_due_parts) ["mixing", "beacons", "heads", "row", "shown", "before", "after", "k", "paper"] ["mixing", "beacons", "heads", "row", "shown", "before", "after", "k", "paper"] ["range", "len", "_law_paper", "is_accepted", "_law_last"] = true := by decide +kernel
abbrev s_law : Stmt := topS 74
theorem sc_law : FnScope ["script", "box", "mix", "mixing", "things", "notebook", "beacons", "heads", "thing", "hour", "shown", "one", "papers", "parts", "before", "after", "told", "two", "pair"] ["script"] (defScope s_law) := ⟨rfl, rfl, rfl, by decide +kernel, rfl, by decide +kernel, by decide +kernel⟩
theorem oc_law : okC (defScope s_law) ["script", "box", "mix", "mixing", "things", "notebook", "beacons", "heads", "thing", "hour", "shown", "one", "papers", "parts", "before", "after", "told", "two"] ["script", "box", "mix", "mixing", "things", "notebook", "beacons", "heads", "thing", "hour", "shown", "one", "papers", "parts", "before", "after", "told", "two"] ["_law_row", "_law_mix", "Mixing", "_law_things", "_law_draw", "Notebook", "range", "len", "_law_papers", "_law_due_parts", "max", "min", "_law_same", "window", "foretold", "is_accepted"] = true := by decide +kernel
abbrev CxOf_law (X : Cx) (k : Nat) : Prop := Ctx X (defScope s_law) ["script", "box", "mix", "mixing", "things", "notebook", "beacons", "heads", "thing", "hour", "shown", "one", "papers", "parts", "before", "after", "told", "two", "pair"] ["script", "box", "mix", "mixing", "things", "notebook", "beacons", "heads", "thing", "hour", "shown", "one", "papers", "parts", "before", "after", "told", "two"] ["script", "box", "mix", "mixing", "things", "notebook", "beacons", "heads", "thing", "hour", "shown", "one", "papers", "parts", "before", "after", "told", "two"] ["_law_row", "_law_mix", "Mixing", "_law_things", "_law_draw", "Notebook", "range", "len", "_law_papers", "_law_due_parts", "max", "min", "_law_same", "window", "foretold", "is_accepted"] k
abbrev s_Mixing___init__ : Stmt := inClass (topS 5) 0
theorem sc_Mixing___init__ : FnScope ["self", "bound", "factor"] ["self", "bound", "factor"] (defScope s_Mixing___init__) := ⟨rfl, rfl, rfl, by decide +kernel, rfl, by decide +kernel, by decide +kernel⟩
theorem oc_Mixing___init__ : okC (defScope s_Mixing___init__) ["self", "bound", "factor"] ["self", "bound", "factor"] [] = true := by decide +kernel
abbrev s_Paper___init__ : Stmt := inClass (topS 36) 0
theorem sc_Paper___init__ : FnScope ["self", "first", "steps"] ["self", "first", "steps"] (defScope s_Paper___init__) := ⟨rfl, rfl, rfl, by decide +kernel, rfl, by decide +kernel, by decide +kernel⟩
theorem oc_Paper___init__ : okC (defScope s_Paper___init__) ["self", "first", "steps"] ["self", "first", "steps"] ["list"] = true := by decide +kernel
abbrev s_Notebook___init__ : Stmt := inClass (topS 43) 0
theorem sc_Notebook___init__ : FnScope ["self", "mixing"] ["self", "mixing"] (defScope s_Notebook___init__) := ⟨rfl, rfl, rfl, by decide +kernel, rfl, by decide +kernel, by decide +kernel⟩
theorem oc_Notebook___init__ : okC (defScope s_Notebook___init__) ["self", "mixing"] ["self", "mixing"] [] = true := by decide +kernel
abbrev s_Notebook_note : Stmt := inClass (topS 43) 1
theorem sc_Notebook_note : FnScope ["self", "row"] ["self", "row"] (defScope s_Notebook_note) := ⟨rfl, rfl, rfl, by decide +kernel, rfl, by decide +kernel, by decide +kernel⟩
theorem oc_Notebook_note : okC (defScope s_Notebook_note) ["self", "row"] ["self", "row"] ["is_thing_of", "BEACON", "NotebookError"] = true := by decide +kernel
abbrev s_Notebook_see : Stmt := inClass (topS 43) 2
theorem sc_Notebook_see : FnScope ["self", "row", "hour"] ["self", "row", "hour"] (defScope s_Notebook_see) := ⟨rfl, rfl, rfl, by decide +kernel, rfl, by decide +kernel, by decide +kernel⟩
theorem oc_Notebook_see : okC (defScope s_Notebook_see) ["self", "row", "hour"] ["self", "row", "hour"] ["is_thing_of", "HEAD", "NotebookError"] = true := by decide +kernel
abbrev s_Notebook_has_noted : Stmt := inClass (topS 43) 3
theorem sc_Notebook_has_noted : FnScope ["self", "row"] ["self", "row"] (defScope s_Notebook_has_noted) := ⟨rfl, rfl, rfl, by decide +kernel, rfl, by decide +kernel, by decide +kernel⟩
theorem oc_Notebook_has_noted : okC (defScope s_Notebook_has_noted) ["self", "row"] ["self", "row"] [] = true := by decide +kernel
abbrev s_Notebook_seen : Stmt := inClass (topS 43) 4
theorem sc_Notebook_seen : FnScope ["self", "row"] ["self", "row"] (defScope s_Notebook_seen) := ⟨rfl, rfl, rfl, by decide +kernel, rfl, by decide +kernel, by decide +kernel⟩
theorem oc_Notebook_seen : okC (defScope s_Notebook_seen) ["self", "row"] ["self", "row"] [] = true := by decide +kernel
abbrev s_NotebookError___init__ : Stmt := inClass (topS 2) 0
theorem sc_NotebookError___init__ : FnScope ["self", "reason"] ["self", "reason"] (defScope s_NotebookError___init__) := ⟨rfl, rfl, rfl, by decide +kernel, rfl, by decide +kernel, by decide +kernel⟩
theorem oc_NotebookError___init__ : okC (defScope s_NotebookError___init__) ["self", "reason"] ["self", "reason"] [] = true := by decide +kernel
/-! o.m(..) -/
structure MetOk (P : Program) (w : World) (K : PySem.W.Frag) (mg : Str → Option Value) (base : Heap) (Cl : Addr) (m : Str) (ps : List Str) (k : Nat) (sp : Sp) : Prop where
  ex : ∃ f fd, FnOk P w K mg base CX0 k f fd ps sp ∧ Meth K Cl m f ∧ Binds K fd ps []
section
variable {X : Cx} {σ : St} {H : Hp} {Q : VK} {N Vs Ls G : List Str} {k k' : Nat} {sc : Scope} {e o : Expr} {es : List Expr} {pos apos mpos p1 : Pos} {m : Str} {ps : List Str} {sp : Sp} {Cl : Addr}
theorem xe_meth {pl : Sem Bool} (C : Ctx X sc N Vs Ls G k) (F : MetOk X.prog X.w X.K X.mg X.base Cl m ps k' sp) (cl : Cls X.K Cl) (hk : k' ≤ k)
    (h : XE X o σ H fun x H1 => ∃ a dx fs, x = .ref a ∧ H1 a = some (.ins Cl dx fs) ∧ List.lookup m fs = none ∧ XA X (e :: es) σ H1 fun vs H2 => sp (x :: vs) H2 Q E0)
    (hpl : (backTo pos (starEach es X.env)).any (·.1) = false := by rfl)
    (hst : starEach (e :: es) X.env = (false, eval e X.env) :: starEach es X.env := by rfl)
    (hcall : eval (.Call (.Attribute o m apos) (e :: es) [] pos) X.env = (do
      let obj ← eval o X.env
      standAt apos.atName
      let (g, who) ← holding [obj] (getMethod obj m pl)
      callWith pos g who (backTo pos (starEach (e :: es) X.env)) (backToKw pos (keywordEach [] X.env))) := by rfl) : XE X (.Call (.Attribute o m apos) (e :: es) [] pos) σ H Q := by
  obtain ⟨f, fd, F, M, b⟩ := F.ex
  refine ⟨_, pe_meth XE.pe cl M F (C.room.mono hk) b .nil pass0 XA.pa hst hpl hcall, ?_⟩
  refine XE.mono h fun x H1 ⟨a, dx, fs, e1, e2, e3, q⟩ => ⟨a, dx, fs, e1, e2, e3, ?_⟩
  refine XA.mono q fun vs H2 q => ?_
  rw [List.append_nil]; exact q
theorem xe_meth0 {pl : Sem Bool} (C : Ctx X sc N Vs Ls G k) (F : MetOk X.prog X.w X.K X.mg X.base Cl m ps k' sp) (cl : Cls X.K Cl) (hk : k' ≤ k)
    (h : XE X o σ H fun x H1 => ∃ a dx fs, x = .ref a ∧ H1 a = some (.ins Cl dx fs) ∧ List.lookup m fs = none ∧ sp [x] H1 Q E0)
    (hcall : eval (.Call (.Attribute o m apos) [] [] pos) X.env = (do
      let obj ← eval o X.env
      standAt apos.atName
      let (g, who) ← holding [obj] (getMethod obj m pl)
      callWith pos g who (backTo pos (starEach [] X.env)) (backToKw pos (keywordEach [] X.env))) := by rfl) : XE X (.Call (.Attribute o m apos) [] [] pos) σ H Q := by
  obtain ⟨f, fd, F, M, b⟩ := F.ex
  refine ⟨_, pe_meth0 XE.pe cl M F (C.room.mono hk) b .nil pass0 hcall, ?_⟩
  refine XE.mono h fun x H1 ⟨a, dx, fs, e1, e2, e3, q⟩ => ⟨a, dx, fs, e1, e2, e3, ?_⟩
  exact q
theorem xe_dnewK (h : ∀ p H', Kp [] H H' → H p = none → H' p = some (.dK []) → Q (.ref p) H') : XE X (.Dict [] [] pos) σ H Q := ⟨_, pe_dnewK, new_ h⟩
end
/-! exceptions: raised, passed on, caught -/
/-- a def's own frame -/
structure Top (X : Cx) : Prop where
  hs : X.stack = X.env :: X.outer
  hf : X.env.frame = some X.env.locals
  hex : X.ex = []
/-- what an exception class of the module must have -/
structure ErrB (K : PySem.W.Frag) (C : Addr) : Prop where
  exC : PySem.W.subIn K (.ref C) (.type "BaseException") = some true
  hdC : PySem.W.hasDictIn K C = true
  tyC : PySem.W.typeIn K (.ref C) = some (.type "type")
structure ErrC (K : PySem.W.Frag) (C : Addr) : Prop where
  ox : OexC K C
  xf : XfC K C
  hcl : (PySem.W.clsIn K C).isSome = true
  ha : PySem.W.findIn K (.ref C) "__class__" = some (some (.builtin "object.__class__"))
  hn : PySem.W.specialIn K (.builtin "object.__class__") "__get__" = some (some (.builtin "getset_descriptor.__get__"))
  ht : PySem.W.takesIn K (.builtin "object.__class__") = some true
  hm : PySem.W.mroIn K C (.type "object") = some true
section
variable {P : Program} {w : World} {K : PySem.W.Frag} {mg : Str → Option Value} {base : Heap}
theorem fnOk_byX {x qual : Str} {st : Stmt} {f : Addr} {fd : FuncData} {N Vs ps G : List Str} {k : Nat} {sp : Sp} (F : Fun K x qual st f fd) (S : FnScope N ps (defScope st)) (ok : okC (defScope st) Vs Vs G = true) (len : ∀ vs H Q E, sp vs H Q E → vs.length = ps.length)
    (hbody : ∀ X : Cx, X.prog = P → X.w = w → X.K = K → X.mg = mg → X.base = base → Ctx X (defScope st) N Vs Vs G k → Top X → ∀ (H : Hp) (vs : List V) (Q : VK) (E : XK), Takes X (fun cls d _ H' => E cls d H') → sp vs H Q E → XB X (defBody st) (fun _ H' => Q .non H') ⟨Q, fun _ _ => False, fun _ _ => False⟩ (st0 N vs) H) :
    FnOk P w K mg base (L2.CX P w) (k + 1) f fd ps sp := by
  refine F.okX S len (fun cdv A outer s H vs Q E hr h => ?_)
  have hl : vs.length ≤ N.length := by
    rw [len vs H Q E h]
    have := S.pre
    rw [← this, List.length_take]; exact Nat.min_le_right _ _
  rw [start_eq N vs hl]
  obtain ⟨t, h1, q⟩ := hbody (cxOf (L2.CX P w) P w K mg base N qual (defScope st) f cdv A outer s H E) rfl rfl rfl rfl rfl ⟨rfl, S.nd, rfl, ok, rfl, fun _ _ => rfl, passes_of rfl, S.kind, hr⟩ ⟨rfl, rfl, rfl⟩ H vs Q E (takes_of rfl rfl rfl rfl) h
  exact ⟨t, h1, q⟩
theorem fnOk_byT {x qual : Str} {st : Stmt} {f : Addr} {fd : FuncData} {N Vs ps G : List Str} {k : Nat} {sp : Sp} (F : Fun K x qual st f fd) (S : FnScope N ps (defScope st)) (ok : okC (defScope st) Vs Vs G = true) (len : ∀ vs H Q E, sp vs H Q E → vs.length = ps.length)
    (hbody : ∀ X : Cx, X.prog = P → X.w = w → X.K = K → X.mg = mg → X.base = base → Ctx X (defScope st) N Vs Vs G k → Top X → ∀ (H : Hp) (vs : List V) (Q : VK) (E : XK), sp vs H Q E → XB X (defBody st) (fun _ H' => Q .non H') ⟨Q, fun _ _ => False, fun _ _ => False⟩ (st0 N vs) H) :
    FnOk P w K mg base CX0 (k + 1) f fd ps sp := by
  refine F.ok S len (fun cdv A outer s H vs Q E hr h => ?_)
  have hl : vs.length ≤ N.length := by
    rw [len vs H Q E h]
    have := S.pre
    rw [← this, List.length_take]; exact Nat.min_le_right _ _
  rw [start_eq N vs hl]
  obtain ⟨t, h1, q⟩ := hbody ((cxOf CX0 P w K mg base N qual (defScope st) f cdv A outer s H E).nox) rfl rfl rfl rfl rfl ⟨rfl, S.nd, rfl, ok, rfl, fun _ _ => rfl, PassesOwn.never, S.kind, hr⟩ ⟨rfl, rfl, rfl⟩ H vs Q E h
  exact ⟨t, h1, q⟩
theorem DefOk.byT {x qual : Str} {st : Stmt} {N Vs ps G : List Str} {k : Nat} {sp : Sp} (F : DefAt K mg x qual st ps) (S : FnScope N ps (defScope st)) (ok : okC (defScope st) Vs Vs G = true) (len : ∀ vs H Q E, sp vs H Q E → vs.length = ps.length)
    (hbody : ∀ X : Cx, X.prog = P → X.w = w → X.K = K → X.mg = mg → X.base = base → Ctx X (defScope st) N Vs Vs G k → Top X → ∀ (H : Hp) (vs : List V) (Q : VK) (E : XK), sp vs H Q E → XB X (defBody st) (fun _ H' => Q .non H') ⟨Q, fun _ _ => False, fun _ _ => False⟩ (st0 N vs) H) :
    DefOk P w K mg base x ps (k + 1) sp := by
  obtain ⟨f, fd, F, hm, hb⟩ := F.ex
  exact ⟨f, fd, fnOk_byT F S ok len hbody, hm, F.kp, hb⟩
/-- a def of the module that may raise -/
structure DefOkX (P : Program) (w : World) (K : PySem.W.Frag) (mg : Str → Option Value) (base : Heap) (x : Str) (ps : List Str) (k : Nat) (sp : Sp) : Prop where
  ex : ∃ f fd, FnOk P w K mg base (L2.CX P w) k f fd ps sp ∧ mg x = some (.ref f) ∧ PySem.W.keepIn K (.ref f) = true ∧ Binds K fd ps []
theorem DefOkX.by {x qual : Str} {st : Stmt} {N Vs ps G : List Str} {k : Nat} {sp : Sp} (F : DefAt K mg x qual st ps) (S : FnScope N ps (defScope st)) (ok : okC (defScope st) Vs Vs G = true) (len : ∀ vs H Q E, sp vs H Q E → vs.length = ps.length)
    (hbody : ∀ X : Cx, X.prog = P → X.w = w → X.K = K → X.mg = mg → X.base = base → Ctx X (defScope st) N Vs Vs G k → Top X → ∀ (H : Hp) (vs : List V) (Q : VK) (E : XK), Takes X (fun cls d _ H' => E cls d H') → sp vs H Q E → XB X (defBody st) (fun _ H' => Q .non H') ⟨Q, fun _ _ => False, fun _ _ => False⟩ (st0 N vs) H) :
    DefOkX P w K mg base x ps (k + 1) sp := by
  obtain ⟨f, fd, F, hm, hb⟩ := F.ex
  exact ⟨f, fd, fnOk_byX F S ok len hbody, hm, F.kp, hb⟩
/-- a method that may raise -/
structure MetOkX (P : Program) (w : World) (K : PySem.W.Frag) (mg : Str → Option Value) (base : Heap) (Cl : Addr) (m : Str) (ps : List Str) (k : Nat) (sp : Sp) : Prop where
  ex : ∃ f fd, FnOk P w K mg base (L2.CX P w) k f fd ps sp ∧ Meth K Cl m f ∧ Binds K fd ps []
/-- an exception class with its own __init__ -/
structure ErrOk (P : Program) (w : World) (K : PySem.W.Frag) (mg : Str → Option Value) (base : Heap) (x : Str) (C : Addr) (ps : List Str) (k : Nat) (sp : Sp) : Prop where
  ex : ∃ f fd, FnOk P w K mg base CX0 k f fd ps sp ∧ mg x = some (.ref C) ∧ PySem.W.findIn K (.ref C) "__init__" = some (some (.ref f)) ∧ PySem.W.typeIn K (.ref f) = some (.type "function") ∧ Binds K fd ps []
end
section
variable {X : Cx} {σ σ' : St} {H : Hp} {Q : VK} {N Vs Ls G : List Str} {k k' : Nat} {sc : Scope} {a b e o : Expr} {es : List Expr} {pos p1 p2 p3 p4 apos : Pos} {nx : St → Hp → Prop} {D : B3} {W : WX} {x m : Str} {ps : List Str} {sp : Sp} {Cl : Addr}
theorem xe_callX (C : Ctx X sc N Vs Ls G k) (F : DefOkX X.prog X.w X.K X.mg X.base x ps k' sp) (tk : Takes X W) (hg : Mem G x) (hk : k' ≤ k) (h : XA X (a :: es) σ H fun vs H1 => sp vs H1 Q (fun cls d H' => W cls d σ H'))
    (hdb : (x == ("__debug__" : Str)) = false := by decide) (he : starEach (a :: es) X.env = (false, eval a X.env) :: starEach es X.env := by rfl) (hpl : (backTo pos (starEach es X.env)).any (·.1) = false := by rfl) : XE X (.Call (.Name x p1) (a :: es) [] pos) σ H Q := by
  obtain ⟨f, fd, F, hm, kp, b⟩ := F.ex
  exact ⟨_, pe_callS F (C.room.mono hk) (C.gl hg) hm kp b (fun σ => passAt tk σ) XA.pa hdb he hpl, h⟩
def tMethS (C : Addr) (m : Str) (sp : Sp) (E : St → XK) (ta : TE) (t : TA) : TE := fun σ H Q => ta σ H fun x H1 => ∃ a dx fs, x = .ref a ∧ H1 a = some (.ins C dx fs) ∧ List.lookup m fs = none ∧ t σ H1 fun vs H2 => sp (x :: vs) H2 Q (E σ)
theorem pe_methE {CX : CXT} {f : Addr} {fd : FuncData} {E : St → XK} {ta : TE} {t : TA} {pl : Sem Bool} (he : PE X o ta) (c : Cls X.K Cl) (hm : Meth X.K Cl m f) (F : FnOk X.prog X.w X.K X.mg X.base CX k f fd ps sp) (hr : Room k X.A) (hb : Binds X.K fd ps []) (hx : ∀ σ, PassesAt CX X σ (E σ)) (ha : PA X (e :: es) t)
    (hst : starEach (e :: es) X.env = (false, eval e X.env) :: starEach es X.env := by rfl) (hpl : (backTo pos (starEach es X.env)).any (·.1) = false := by rfl)
    (ht : eval (.Call (.Attribute o m apos) (e :: es) [] pos) X.env = (do
      let ov ← eval o X.env
      standAt apos.atName
      let (f, first) ← holding [ov] (getMethod ov m pl)
      callWith pos f first (backTo pos (starEach (e :: es) X.env)) (backToKw pos (keywordEach [] X.env))) := by rfl) :
    PE X (.Call (.Attribute o m apos) (e :: es) [] pos) (tMethS Cl m sp E ta t) := by
  refine ⟨fun pins s σ H Q I h => ?_⟩
  refine PySem.W.methodCall_KW (pl := pl) (thn (he.run pins s σ H _ I h) fun u s1 ⟨x, H1, I1, rx, a, dx, fs, ex, ea, l, q⟩ => ?_) ht
  subst ex
  obtain rfl : u = Value.ref a := rx
  refine getmeth_ok I1 ea c hm l ?_
  refine PySem.W.callWith_K (first := [.ref a]) (h₀ := X.base) I.ok.mod.kin hm.kp (thn (ha.run pos pins s1 σ H1 _ I1 q) fun us s2 ⟨vs, H2, I2, r, q2⟩ => ⟨I2.kIn, ?_⟩) hst hpl
  exact run_fnS (us := .ref a :: us) (vs := .ref a :: vs) F hr hb (hx σ) I2 (.cons rfl r) q2
theorem xe_methX {pl : Sem Bool} (C : Ctx X sc N Vs Ls G k) (F : MetOkX X.prog X.w X.K X.mg X.base Cl m ps k' sp) (tk : Takes X W) (cl : Cls X.K Cl) (hk : k' ≤ k)
    (h : XE X o σ H fun x H1 => ∃ a dx fs, x = .ref a ∧ H1 a = some (.ins Cl dx fs) ∧ List.lookup m fs = none ∧ XA X (e :: es) σ H1 fun vs H2 => sp (x :: vs) H2 Q (fun cls d H' => W cls d σ H'))
    (hpl : (backTo pos (starEach es X.env)).any (·.1) = false := by rfl)
    (hst : starEach (e :: es) X.env = (false, eval e X.env) :: starEach es X.env := by rfl)
    (hcall : eval (.Call (.Attribute o m apos) (e :: es) [] pos) X.env = (do
      let obj ← eval o X.env
      standAt apos.atName
      let (g, who) ← holding [obj] (getMethod obj m pl)
      callWith pos g who (backTo pos (starEach (e :: es) X.env)) (backToKw pos (keywordEach [] X.env))) := by rfl) : XE X (.Call (.Attribute o m apos) (e :: es) [] pos) σ H Q := by
  obtain ⟨f, fd, F, M, b⟩ := F.ex
  exact ⟨_, pe_methE XE.pe cl M F (C.room.mono hk) b (fun σ => passAt tk σ) XA.pa hst hpl hcall, h⟩
/-! raise -/
theorem kp_made {H1 : Hp} {a d : Addr} {oa oa' od od2 : HO} (ha : H1 a = none) (hd : H1 d = none) : Kp [] H1 (upd (L2.del (upd (upd (upd H1 a oa) d od) a oa') a) d od2) := by
  have ne : ∀ q u, H1 q = some u → q ≠ a ∧ q ≠ d := fun q u h => ⟨fun e => (by rw [e, ha] at h; cases h), fun e => (by rw [e, hd] at h; cases h)⟩
  have k : ∀ q u, H1 q = some u → upd (L2.del (upd (upd (upd H1 a oa) d od) a oa') a) d od2 q = some u := fun q u h => by
    obtain ⟨n1, n2⟩ := ne q u h
    rw [upd_ne n2, del_ne n1, upd_ne n1, upd_ne n2, upd_ne n1]; exact h
  refine ⟨fun q u _ h => k q u h, fun q xs h => k q _ h, fun q o u h => k q _ h, fun q h => ?_⟩
  cases hq : H1 q with
  | none => rfl
  | some u => rw [k q u hq] at h; cases h
/-- the promise of an __init__ that stores one field -/
def sp_err1 (C : Addr) (f : Str) : Sp := fun vs H Q _ => ∃ (a : Addr) (v : V), vs = [.ref a, v] ∧ H a = some (exo a C none) ∧ ∀ dx, H dx = none → dx ≠ a → Q .non (upd (upd H dx (exd dx [(f, v)])) a (exo a C (some dx)))
theorem xs_raise1 {C : Addr} {f : Str} (Cc : Ctx X sc N Vs Ls G k) (F : ErrOk X.prog X.w X.K X.mg X.base x C ps k' (sp_err1 C f)) (E : ErrC X.K C) (tk : Takes X W) (hg : Mem G x) (hk : k' + 1 ≤ k)
    (h : XE X a σ H fun v H1 => ∀ d H', Kp [] H1 H' → H1 d = none → H' d = some (.xd [(f, v)]) → W (.ref C) (some d) σ H')
    (hdb : (x == ("__debug__" : Str)) = false := by decide) (he : starEach (a :: []) X.env = (false, eval a X.env) :: starEach [] X.env := by rfl) (hpl : (backTo p2 (starEach [] X.env)).any (·.1) = false := by rfl) :
    XS X (.Raise (some (.Call (.Name x p1) [a] [] p2)) none pos) nx D σ H := by
  obtain ⟨fI, fd, F, hm, iC, tI, b⟩ := F.ex
  refine ⟨_, ps_raise Cc.calm tk (pmk_oex E.ox iC tI F (Cc.room.mono hk) b .nil pass0 (Cc.gl hg) hm XA.pa hdb he hpl), ?_⟩
  refine xa_cons (hs := he) (XE.mono h fun v H1 q => xa_nil ⟨by simp, fun a ha => ?_⟩)
  refine ⟨a, v, rfl, upd_same, fun dx hdx ne => ⟨rfl, dx, [(f, v)], upd_same, by rw [upd_ne ne]; exact upd_same, by rw [upd_ne ne] at hdx; exact hdx, ?_⟩⟩
  rw [upd_ne ne] at hdx
  exact q dx _ (kp_made ha hdx) hdx upd_same
/-- the promise of an __init__ that stores two fields -/
def sp_err2 (C : Addr) (f g : Str) : Sp := fun vs H Q _ => ∃ (a : Addr) (v u : V), vs = [.ref a, v, u] ∧ H a = some (exo a C none) ∧ ∀ dx, H dx = none → dx ≠ a → Q .non (upd (upd (upd H dx (exd dx [(f, v)])) a (exo a C (some dx))) dx (exd dx [(g, u), (f, v)]))
theorem kp_made2 {H1 : Hp} {a d : Addr} {oa oa' od od' od2 : HO} (ha : H1 a = none) (hd : H1 d = none) : Kp [] H1 (upd (L2.del (upd (upd (upd (upd H1 a oa) d od) a oa') d od') a) d od2) := by
  have ne : ∀ q u, H1 q = some u → q ≠ a ∧ q ≠ d := fun q u h => ⟨fun e => (by rw [e, ha] at h; cases h), fun e => (by rw [e, hd] at h; cases h)⟩
  have k : ∀ q u, H1 q = some u → upd (L2.del (upd (upd (upd (upd H1 a oa) d od) a oa') d od') a) d od2 q = some u := fun q u h => by
    obtain ⟨n1, n2⟩ := ne q u h
    rw [upd_ne n2, del_ne n1, upd_ne n2, upd_ne n1, upd_ne n2, upd_ne n1]; exact h
  refine ⟨fun q u _ h => k q u h, fun q xs h => k q _ h, fun q o u h => k q _ h, fun q h => ?_⟩
  cases hq : H1 q with
  | none => rfl
  | some u => rw [k q u hq] at h; cases h
theorem xs_raise2 {C : Addr} {f g : Str} (Cc : Ctx X sc N Vs Ls G k) (F : ErrOk X.prog X.w X.K X.mg X.base x C ps k' (sp_err2 C f g)) (E : ErrC X.K C) (tk : Takes X W) (hg : Mem G x) (hk : k' + 1 ≤ k)
    (h : XE X a σ H fun v H0 => XE X b σ H0 fun u H1 => ∀ d H', Kp [] H1 H' → H1 d = none → H' d = some (.xd [(g, u), (f, v)]) → W (.ref C) (some d) σ H')
    (hdb : (x == ("__debug__" : Str)) = false := by decide) (he : starEach (a :: [b]) X.env = (false, eval a X.env) :: starEach [b] X.env := by rfl) (he2 : starEach (b :: []) X.env = (false, eval b X.env) :: starEach [] X.env := by rfl) (hpl : (backTo p2 (starEach [b] X.env)).any (·.1) = false := by rfl) :
    XS X (.Raise (some (.Call (.Name x p1) [a, b] [] p2)) none pos) nx D σ H := by
  obtain ⟨fI, fd, F, hm, iC, tI, b⟩ := F.ex
  refine ⟨_, ps_raise Cc.calm tk (pmk_oex E.ox iC tI F (Cc.room.mono hk) b .nil pass0 (Cc.gl hg) hm XA.pa hdb he hpl), ?_⟩
  refine xa_cons (hs := he) (XE.mono h fun v H0 q => xa_cons (hs := he2) (XE.mono q fun u H1 q => xa_nil ⟨by simp, fun a ha => ?_⟩))
  refine ⟨a, v, u, rfl, upd_same, fun dx hdx ne => ⟨rfl, dx, [(g, u), (f, v)], by rw [upd_ne (Ne.symm ne)]; exact upd_same, upd_same, by rw [upd_ne ne] at hdx; exact hdx, ?_⟩⟩
  rw [upd_ne ne] at hdx
  exact q dx _ (kp_made2 (od' := exd dx [(g, u), (f, v)]) ha hdx) hdx upd_same
/-- self.f = y in an exception's __init__ -/
theorem xs_ost {f : Str} (h : XE X e σ H fun y H1 => XE X o σ H1 fun x H2 => ∃ a C : Addr, x = .ref a ∧ OexC X.K C ∧ PySem.W.findIn X.K (.ref C) f = some none ∧
  ((H2 a = some (exo a C none) ∧ ∀ dx, H2 dx = none → dx ≠ a → nx σ (upd (upd H2 dx (exd dx [(f, y)])) a (exo a C (some dx)))) ∨
    ∃ (dx : Addr) (fs : List (Str × V)), H2 a = some (exo a C (some dx)) ∧ H2 dx = some (exd dx fs) ∧ fs.length ≤ 900 ∧ nx σ (upd H2 dx (exd dx ((f, y) :: fs)))))
    (hs : swapsWith e (some (.Attribute o f p1)) pos.line X.env = pure false := by rfl) : XS X (.Assign [.Attribute o f p1] e pos) nx D σ H := ⟨_, ps_ost XE.pe XE.pe hs, h⟩
/-! try .. except x as n -/
theorem ctx_tr (C : Ctx X sc N Vs Ls G k) {pn : List (Addr × Obj)} {xe : Value → Shared → Prop} (po : PassesOwn (model X.prog X.w) X.A X.env xe) : Ctx (X.tr pn xe) sc N Vs Ls G k := ⟨C.hN, C.nd, C.esc, C.ok, C.calm, C.fn, po, C.knd, C.room⟩
theorem wp_nil {σ : St} {n : Str} {i : Nat} {v : V} (hi : N[i]? = some n) (nd : N.Nodup) (h : Put N σ n v σ') : σ.set i (some v) = σ' := by
  obtain ⟨j, hj, e⟩ := h.ix
  have ij : i = j := nd_ix nd hi hj
  subst ij; exact e
theorem xs_tryAs {n : Str} {c : Value} {Wout : WX} {body suite : List Stmt} {b₀ : Stmt} {np pos' : Pos} (C : Ctx X sc N Vs Ls G k) (Tp : Top X) (hn : Mem N n) (hln : sc.names.lookup n = some .local) (hgx : Mem G x) (hdx : (x == ("__debug__" : Str)) = false) (hmx : X.mg x = some c) (tk : Takes X Wout)
    (h : ∀ (pn : List (Addr × Obj)) (xe : Value → Shared → Prop) (W : WX), Takes (X.tr pn xe) W → Ctx (X.tr pn xe) sc N Vs Ls G k →
      (∀ (cls : Value) (d : Option Addr) (σ1 : St) (H1 : Hp), (PySem.W.exmOne X.K cls c = some true ∧ ∀ (a : Addr) (oe : Obj) (pn' : List (Addr × Obj)) (i : Nat), N[i]? = some n → H1 a = none → Zc cls d oe → (∃ vs, oe.data = .fields vs) → XB (X.suite a ((a, oe) :: pn')) (b₀ :: suite) (fun σ' H' => nx (σ'.set i none) H') ⟨D.rt, fun σ' H' => D.bk (σ'.set i none) H', fun σ' H' => D.ct (σ'.set i none) H'⟩ (σ1.set i (some (.ref a))) H1) → W cls d σ1 H1) →
      XB (X.tr pn xe) body nx D σ H) :
    XS X (.Try body [.ExceptHandler (some (.Name x np)) (some n) (b₀ :: suite) pos'] [] [] pos) nx D σ H := by
  have hn' := hn.mem
  obtain ⟨i, hi⟩ := List.getElem?_of_mem hn'
  have hln' : X.env.kindOf n = some .local := by
    show X.env.scope.names.lookup n = _
    rw [C.esc]; exact hln
  have nd : X.N.Nodup := by rw [C.hN]; exact C.nd
  let tb : WX → TS := fun W D σ H => ∀ (pn : List (Addr × Obj)) (xe : Value → Shared → Prop), Takes (X.tr pn xe) W → PassesOwn (model X.prog X.w) X.A X.env xe → XB (X.tr pn xe) body D.nx ⟨D.rt, D.bk, D.ct⟩ σ H
  let ts : Addr → Value → Option Addr → TS := fun a cls d D σ H => ∀ (oe : Obj) (pn : List (Addr × Obj)), Zc cls d oe → (∃ vs, oe.data = .fields vs) → XB (X.suite a ((a, oe) :: pn)) (b₀ :: suite) D.nx ⟨D.rt, D.bk, D.ct⟩ σ H
  refine ⟨_, ps_try_as (tb := tb) (ts := ts) Tp.hs Tp.hf nd (i := i) (by rw [C.hN]; exact hi) hln' ⟨C.gl hgx, hdx, .inl hmx⟩ tk (fun W pn xe t po => ?_) (fun a oe cls d pn hz hf => ?_), ?_⟩
  · exact ⟨fun pins s σ H D I h => (XB.ps).run pins s σ H D I (h pn xe t po)⟩
  · exact ⟨fun pins s σ H D I h => (XB.ps).run pins s σ H D I (h oe pn hz hf)⟩
  · intro pn xe t po
    refine h pn xe _ t (ctx_tr C po) (fun cls d σ1 H1 ⟨hm, hq⟩ => ⟨true, hm, fun _ a ha oe pn' hz hf => hq a oe pn' i hi ha hz hf, fun z => nomatch z⟩)
theorem exm_of {C cls : Addr} {b : Bool} {K : PySem.W.Frag} (B : ErrB K C) (h : PySem.W.subIn K (.ref cls) (.ref C) = some b) : PySem.W.exmOne K (.ref cls) (.ref C) = some b := PySem.W.exm_ref B.exC B.hdC B.tyC h
/-! in the suite of an except clause -/
section
variable {ea : Addr} {oe : Obj} {pn : List (Addr × Obj)} {cls : Value} {d : Option Addr} {v : V}
theorem xe_varH (C : Ctx X sc N Vs Ls G k) (hv : Mem Vs x) (h : At N σ x v) (q : Q v H) (hd : (x == ("__debug__" : Str)) = false := by decide) (hcd : (x == ("__classdict__" : Str)) = false := by decide) : XE (X.suite ea pn) (.Name x pos) σ H Q := by
  obtain ⟨i, h1, h2⟩ := h.ix
  exact ⟨_, pe_var (X := X.suite ea pn) (i := i) (by show X.N[i]? = _; rw [C.hN]; exact h1) (C.vis hv) hd hcd, v, h2, q⟩
/-- the caught exception itself -/
theorem xe_excH {n : Str} {i : Nat} {p : Addr} (C : Ctx X sc N Vs Ls G k) (hv : Mem Vs n) (hi : N[i]? = some n) (hl : i < σ.length) (q : Q (.ref p) H) (hd : (n == ("__debug__" : Str)) = false := by decide) (hcd : (n == ("__classdict__" : Str)) = false := by decide) : XE (X.suite ea pn) (.Name n pos) (σ.set i (some (.ref p))) H Q :=
  ⟨_, pe_var (X := X.suite ea pn) (i := i) (by show X.N[i]? = _; rw [C.hN]; exact hi) (C.vis hv) hd hcd, .ref p, by simp [hl], q⟩
theorem call_isX {Dc : Addr} (E : ErrC X.K Dc) (hz : Zc (.ref Dc) d oe) (hf : ∃ vs, oe.data = .fields vs) : CallR (X.suite ea ((ea, oe) :: pn)) (.builtin "isinstance") (fun xs H Q => ∃ (c : V) (cv : Value) (b : Bool) (dd : Addr) (fs : List (Str × V)), xs = [.ref ea, c] ∧ (∀ u, RelV c u → u = cv) ∧ PySem.W.kitOne X.K (.ref Dc) cv = some b ∧ d = some dd ∧ H dd = some (.xd fs) ∧ Q (.bl b) H) := by
  intro pins s σ H xs us Q I r h
  obtain ⟨c, cv, b, dd, fs, rfl, hcv, e, ed, hdd, q⟩ := h
  subst ed
  cases r with
  | cons rx rr =>
    cases rr with
    | cons rt rr =>
      cases rr
      cases rx
      have ec := hcv _ rt
      subst ec
      obtain ⟨hget, _⟩ := I.pin (ea, oe) (List.mem_append.mpr (.inl List.mem_cons_self))
      obtain ⟨vs, hv⟩ := hf
      have hx : ObjOk X.prog X.w H s.heap dd (.xd fs) := I.hok dd _ hdd
      obtain ⟨mA, hns, hr⟩ := hx
      obtain ⟨od, ho, hl⟩ := lookIn_ns hns
      have J : PySem.W.InstAt s.heap ea oe Dc (some od) := ⟨hget, hz.1, by unfold PySem.W.notCls; rw [hv] <;> rfl, by rw [hz.2]; exact ho⟩
      exact PySem.W.kia_one (PySem.W.kitx_exc E.hcl E.xf.ga E.xf.gg E.xf.exC E.ha E.hn E.ht E.hm) I.kIn J e (fun z => nomatch z) fun tk => ⟨.bl b, H, I.kept (t' := tk) fun _ _ z => z, rfl, q⟩
theorem xe_isH {n cn : Str} {i : Nat} {Dc D2 dd : Addr} {fs : List (Str × V)} {bb : Bool} (C : Ctx X sc N Vs Ls G k) (E : ErrC X.K Dc) (hz : Zc (.ref Dc) (some dd) oe) (hf : ∃ vs, oe.data = .fields vs) (hg : Mem G "isinstance") (hm : X.mg "isinstance" = none) (hgc : Mem G cn) (mgc : X.mg cn = some (.ref D2)) (he : PySem.W.kitOne X.K (.ref Dc) (.ref D2) = some bb) (hv : Mem Vs n) (hi : N[i]? = some n) (hl : i < σ.length) (hdd : H dd = some (.xd fs)) (q : Q (.bl bb) H)
    (hd : (n == ("__debug__" : Str)) = false := by decide) (hcd : (n == ("__classdict__" : Str)) = false := by decide) (hdc : (cn == ("__debug__" : Str)) = false := by decide) : XE (X.suite ea ((ea, oe) :: pn)) (.Call (.Name "isinstance" p1) [.Name n p2, .Name cn p3] [] pos) (σ.set i (some (.ref ea))) H Q := by
  have gl : ∀ {y : Str}, Mem G y → Gl (X.suite ea ((ea, oe) :: pn)) y := fun h => C.gl h
  refine ⟨_, pe_callB (X := X.suite ea ((ea, oe) :: pn)) (call_isX E hz hf) (gl hg) hm PyProof.Rows.boot_isinstance XA.pa (by decide) (by decide) (by rfl) (by rfl), ?_⟩
  refine xa_cons (hs := by rfl) (xe_excH C hv hi hl ?_ hd hcd)
  refine xa_cons (hs := by rfl) ?_
  refine ⟨_, pe_glob (X := X.suite ea ((ea, oe) :: pn)) (v := .ref D2) (gl hgc) mgc rfl hdc, xa_nil ⟨.ref D2, .ref D2, bb, dd, fs, rfl, fun u h => h, he, rfl, hdd, q⟩⟩
theorem xe_xfH {n f : Str} {i : Nat} {Dc dd : Addr} {fs : List (Str × V)} (C : Ctx X sc N Vs Ls G k) (E : ErrC X.K Dc) (hno : PySem.W.findIn X.K (.ref Dc) f = some none) (hz : Zc (.ref Dc) (some dd) oe) (hf : ∃ vs, oe.data = .fields vs) (hv : Mem Vs n) (hi : N[i]? = some n) (hl : i < σ.length) (hdd : H dd = some (.xd fs)) (hlk : fs.lookup f = some v) (q : Q v H)
    (hd : (n == ("__debug__" : Str)) = false := by decide) (hcd : (n == ("__classdict__" : Str)) = false := by decide) (hb : attributeBase (.Name n p1) f X.env (eval (.Name n p1) X.env) = eval (.Name n p1) X.env := by rfl) : XE (X.suite ea ((ea, oe) :: pn)) (.Attribute (.Name n p1) f pos) (σ.set i (some (.ref ea))) H Q :=
  ⟨_, pe_xf (X := X) E.xf hno hz hf (XE.pe) hb, xe_excH C hv hi hl ⟨rfl, rfl, dd, fs, v, rfl, hdd, hlk, q⟩ hd hcd⟩
end
end
/-! what the top leaves -/
structure Txt (P : Program) (w : World) (K : PySem.W.Frag) (mg : Str → Option Value) (base : Heap) where
  b_abs : mg "abs" = none
  b_bool : mg "bool" = none
  b_enumerate : mg "enumerate" = none
  b_int : mg "int" = none
  b_isinstance : mg "isinstance" = none
  b_len : mg "len" = none
  b_list : mg "list" = none
  b_max : mg "max" = none
  b_min : mg "min" = none
  b_range : mg "range" = none
  b_str : mg "str" = none
  b_tuple : mg "tuple" = none
  b_zip : mg "zip" = none
  c_PRIME : ∃ t, mg "PRIME" = some (.int 2305843009213693951 t)
  c_BEACON : ∃ t, mg "BEACON" = some (.int 1 t)
  c_DOCUMENT : ∃ t, mg "DOCUMENT" = some (.int 2 t)
  c_HEAD : ∃ t, mg "HEAD" = some (.int 4 t)
  c_RENEWAL : ∃ t, mg "RENEWAL" = some (.int 5 t)
  c_NODE : ∃ t, mg "NODE" = some (.int 3 t)
  c_CITE : ∃ t, mg "CITE" = some (.str "cite" t)
  c_BACK : ∃ t, mg "BACK" = some (.str "back" t)
  c_ENTRY : ∃ t, mg "ENTRY" = some (.str "entry" t)
  E_SealError : Addr
  mg_SealError : mg "SealError" = some (.ref E_SealError)
  eb_SealError : ErrB K E_SealError
  E_NotebookError : Addr
  mg_NotebookError : mg "NotebookError" = some (.ref E_NotebookError)
  eb_NotebookError : ErrB K E_NotebookError
  nf_NotebookError_reason : PySem.W.findIn K (.ref E_NotebookError) "reason" = some none
  ec_NotebookError : ErrC K E_NotebookError
  i_NotebookError : ∃ f fd, PySem.W.findIn K (.ref E_NotebookError) "__init__" = some (some (.ref f)) ∧ PySem.W.typeIn K (.ref f) = some (.type "function") ∧ Fun K "__init__" "NotebookError.__init__" s_NotebookError___init__ f fd ∧ Binds K fd ["self", "reason"] []
  up_NotebookError_NotebookError : PySem.W.subIn K (.ref E_NotebookError) (.ref E_NotebookError) = some true
  up_NotebookError_SealError : PySem.W.subIn K (.ref E_NotebookError) (.ref E_SealError) = some true
  d_digest : DefAt K mg "digest" "digest" s_digest ["mixing", "row"]
  d__mixed : DefAt K mg "_mixed" "_mixed" s__mixed ["mixing", "state", "number"]
  d_is_thing : DefAt K mg "is_thing" "is_thing" s_is_thing ["row"]
  d__is_document : DefAt K mg "_is_document" "_is_document" s__is_document ["row"]
  d__is_head : DefAt K mg "_is_head" "_is_head" s__is_head ["row"]
  d_is_thing_of : DefAt K mg "is_thing_of" "is_thing_of" s_is_thing_of ["row", "kind"]
  d_kind_of : DefAt K mg "kind_of" "kind_of" s_kind_of ["row"]
  d__back_count : DefAt K mg "_back_count" "_back_count" s__back_count ["number"]
  d__greatest_step : DefAt K mg "_greatest_step" "_greatest_step" s__greatest_step ["number"]
  d__first_count : DefAt K mg "_first_count" "_first_count" s__first_count ["count"]
  d_turns : DefAt K mg "turns" "turns" s_turns ["count", "index"]
  d_climb : DefAt K mg "climb" "climb" s_climb ["mixing", "count", "index", "entry", "way"]
  d__nodes_up : DefAt K mg "_nodes_up" "_nodes_up" s__nodes_up ["mixing", "count", "index", "entry", "way"]
  d_listed : DefAt K mg "listed" "listed" s_listed ["row", "word"]
  d_has_place : DefAt K mg "has_place" "has_place" s_has_place ["row", "place"]
  d_held_at : DefAt K mg "held_at" "held_at" s_held_at ["mixing", "row", "place"]
  d_holds : DefAt K mg "holds" "holds" s_holds ["mixing", "row", "place", "digest"]
  d_is_right_round : DefAt K mg "is_right_round" "is_right_round" s_is_right_round ["before", "row", "place"]
  d_is_accepted : DefAt K mg "is_accepted" "is_accepted" s_is_accepted ["mixing", "paper"]
  d__first_fault : DefAt K mg "_first_fault" "_first_fault" s__first_fault ["mixing", "paper"]
  d__fault_of_step : DefAt K mg "_fault_of_step" "_fault_of_step" s__fault_of_step ["mixing", "before", "row", "place"]
  d_rows_of : DefAt K mg "rows_of" "rows_of" s_rows_of ["paper"]
  d_joined : DefAt K mg "joined" "joined" s_joined ["one", "two"]
  d_window : DefAt K mg "window" "window" s_window ["notebook", "row", "papers"]
  d_foretold : DefAt K mg "foretold" "foretold" s_foretold ["notebook", "row", "papers"]
  d__window_of : DefAt K mg "_window_of" "_window_of" s__window_of ["earlier", "later"]
  d__from_beacons : DefAt K mg "_from_beacons" "_from_beacons" s__from_beacons ["notebook", "row", "papers"]
  d__to_heads : DefAt K mg "_to_heads" "_to_heads" s__to_heads ["notebook", "row", "papers"]
  d__first_of_hour : DefAt K mg "_first_of_hour" "_first_of_hour" s__first_of_hour ["hour", "found"]
  d__law_cell : DefAt K mg "_law_cell" "_law_cell" s__law_cell ["script", "k"]
  d__law_row : DefAt K mg "_law_row" "_law_row" s__law_row ["script", "first", "last"]
  d__law_draw : DefAt K mg "_law_draw" "_law_draw" s__law_draw ["box", "many"]
  d__law_is_integer : DefAt K mg "_law_is_integer" "_law_is_integer" s__law_is_integer ["told"]
  d__law_same : DefAt K mg "_law_same" "_law_same" s__law_same ["told", "due"]
  d__law_mix : DefAt K mg "_law_mix" "_law_mix" s__law_mix ["box"]
  d__law_digest : DefAt K mg "_law_digest" "_law_digest" s__law_digest ["mix", "row"]
  d__law_half : DefAt K mg "_law_half" "_law_half" s__law_half ["count"]
  d__law_root : DefAt K mg "_law_root" "_law_root" s__law_root ["mix", "entries"]
  d__law_way : DefAt K mg "_law_way" "_law_way" s__law_way ["mix", "entries", "index"]
  d__law_backs : DefAt K mg "_law_backs" "_law_backs" s__law_backs ["number"]
  d__law_pool : DefAt K mg "_law_pool" "_law_pool" s__law_pool ["box", "mix", "things"]
  d__law_pick : DefAt K mg "_law_pick" "_law_pick" s__law_pick ["box", "numbers"]
  d__law_head : DefAt K mg "_law_head" "_law_head" s__law_head ["box", "mix", "things", "numbers"]
  d__law_thing : DefAt K mg "_law_thing" "_law_thing" s__law_thing ["box", "mix", "things"]
  d__law_things : DefAt K mg "_law_things" "_law_things" s__law_things ["box", "mix", "many"]
  d__law_places : DefAt K mg "_law_places" "_law_places" s__law_places ["mix", "thing", "before"]
  d__law_walk : DefAt K mg "_law_walk" "_law_walk" s__law_walk ["box", "mix", "things", "first", "many"]
  d__law_paper : DefAt K mg "_law_paper" "_law_paper" s__law_paper ["first", "steps"]
  d__law_papers : DefAt K mg "_law_papers" "_law_papers" s__law_papers ["box", "mix", "things", "wanted"]
  d__law_last : DefAt K mg "_law_last" "_law_last" s__law_last ["shown"]
  d__law_due_parts : DefAt K mg "_law_due_parts" "_law_due_parts" s__law_due_parts ["mixing", "beacons", "heads", "row", "shown"]
  C_Mixing : Addr
  cl_Mixing : Cls K C_Mixing
  mg_Mixing : mg "Mixing" = some (.ref C_Mixing)
  na_Mixing_bound : NoAttr K C_Mixing "bound"
  na_Mixing_factor : NoAttr K C_Mixing "factor"
  mk_Mixing : ∃ f fd, Mk K C_Mixing f ∧ Fun K "__init__" "Mixing.__init__" s_Mixing___init__ f fd ∧ Binds K fd ["self", "bound", "factor"] []
  C_Paper : Addr
  cl_Paper : Cls K C_Paper
  mg_Paper : mg "Paper" = some (.ref C_Paper)
  na_Paper_first : NoAttr K C_Paper "first"
  na_Paper_steps : NoAttr K C_Paper "steps"
  mk_Paper : ∃ f fd, Mk K C_Paper f ∧ Fun K "__init__" "Paper.__init__" s_Paper___init__ f fd ∧ Binds K fd ["self", "first", "steps"] []
  C_Notebook : Addr
  cl_Notebook : Cls K C_Notebook
  mg_Notebook : mg "Notebook" = some (.ref C_Notebook)
  na_Notebook__beacons : NoAttr K C_Notebook "_beacons"
  na_Notebook__hours : NoAttr K C_Notebook "_hours"
  na_Notebook__last_hour : NoAttr K C_Notebook "_last_hour"
  na_Notebook_mixing : NoAttr K C_Notebook "mixing"
  mk_Notebook : ∃ f fd, Mk K C_Notebook f ∧ Fun K "__init__" "Notebook.__init__" s_Notebook___init__ f fd ∧ Binds K fd ["self", "mixing"] []
  m_Notebook_note : ∃ f fd, Meth K C_Notebook "note" f ∧ Fun K "note" "Notebook.note" s_Notebook_note f fd ∧ Binds K fd ["self", "row"] []
  m_Notebook_see : ∃ f fd, Meth K C_Notebook "see" f ∧ Fun K "see" "Notebook.see" s_Notebook_see f fd ∧ Binds K fd ["self", "row", "hour"] []
  m_Notebook_has_noted : ∃ f fd, Meth K C_Notebook "has_noted" f ∧ Fun K "has_noted" "Notebook.has_noted" s_Notebook_has_noted f fd ∧ Binds K fd ["self", "row"] []
  m_Notebook_seen : ∃ f fd, Meth K C_Notebook "seen" f ∧ Fun K "seen" "Notebook.seen" s_Notebook_seen f fd ∧ Binds K fd ["self", "row"] []
variable {P : Program} {w : World} {mg : Str → Option Value} {base : Heap} {K : PySem.W.Frag}
local macro_rules | `(tactic| wtm_at "go") => `(tactic| (subst e1; subst e2; subst e3; subst e4; subst e5; simp only [st0]; refine Z.xb_cons ?_))
/-! box -/
/-- the drawing box at b: a list of the drawn row, at r, and the place -/
def Box (H : Hp) (b r : Addr) : Prop := ∃ (i : Int) (ns : List Int), H b = some (.lst [.ref r, .int i]) ∧ 0 ≤ i ∧ H r = some (.lst (ns.map V.int))
theorem noInts {r : V} {i : V} {x : Addr} (hr : r = .ref x) : ∀ ns : List Int, HO.lst [r, i] ≠ .lst (ns.map V.int) := by
  intro ns e
  have e2 : [r, i] = ns.map V.int := HO.lst.inj e
  cases ns with
  | nil => cases e2
  | cons n ns => rw [List.map_cons] at e2; rw [hr] at e2; exact nomatch (List.cons.inj e2).1
theorem Box.br {H : Hp} {b r : Addr} (h : Box H b r) : r ≠ b := by
  obtain ⟨i, ns, h1, h2, h3⟩ := h
  intro e
  rw [e, h1] at h3
  exact noInts rfl ns (Option.some.inj h3)
theorem Box.nl {H : Hp} {b r l : Addr} (h : Box H b r) (n : H l = none) : b ≠ l ∧ r ≠ l := by
  obtain ⟨i, ns, h1, h2, h3⟩ := h
  exact ⟨ne_of_none h1 n, ne_of_none h3 n⟩
theorem Box.kp {H H' : Hp} {b r : Addr} (h : Box H b r) (k : Kp [] H H') : Box H' b r := by
  obtain ⟨i, ns, h1, h2, h3⟩ := h
  exact ⟨i, ns, k.at0 h1, h2, k.at0 h3⟩
theorem Box.kp1 {H H' : Hp} {b r l : Addr} (h : Box H b r) (k : Kp [l] H H') (n : b ≠ l ∧ r ≠ l) : Box H' b r := by
  obtain ⟨i, ns, h1, h2, h3⟩ := h
  exact ⟨i, ns, k.at (by simpa using n.1) h1, h2, k.at (by simpa using n.2) h3⟩
/-- a list of ints is not what is changed, if that is no list of ints -/
theorem ints_kp {K : PySem.W.Frag} {H H' : Hp} {b r : Addr} {u : HO} {ns : List Int} (h : SqL K H r (ns.map V.int)) (hb : H b = some u) (hu : ∀ ns : List Int, u ≠ .lst (ns.map V.int)) (k : Kp [b] H H') : SqL K H' r (ns.map V.int) := by
  rcases h with (h | ⟨o, h⟩) | h
  · refine .inl (.inl (k.at (fun m => ?_) h))
    have e : r = b := by simpa using m
    subst e
    rw [hb] at h
    exact hu ns (Option.some.inj h)
  · exact .inl (.inr ⟨o, k.z _ _ _ h⟩)
  · exact .inr h
theorem Box.ints {K : PySem.W.Frag} {H H' : Hp} {b r s : Addr} {ns : List Int} (h : Box H b r) (k : Kp [b] H H') (hs : SqL K H s (ns.map V.int)) : SqL K H' s (ns.map V.int) := by
  obtain ⟨i, ms, h1, h2, h3⟩ := h
  exact ints_kp hs h1 (noInts rfl) k
/-- what is no list is not the box -/
theorem Box.other {H H' : Hp} {b r p : Addr} {o : HO} (h : Box H b r) (k : Kp [b] H H') (ho : ∀ xs, o ≠ .lst xs) (hp : H p = some o) : H' p = some o := by
  obtain ⟨i, ms, h1, h2, h3⟩ := h
  refine k.at1 (fun e => ?_) hp
  rw [e, h1] at hp
  exact ho _ (Option.some.inj hp).symm
/-- numbers drawn one after another into the list at L -/
def LcI (P : Int → Prop) (H0 : Hp) (b r L : Addr) (t : Nat) (H' : Hp) : Prop := (b ≠ L ∧ r ≠ L) ∧ Kp [b, L] H0 H' ∧ Box H' b r ∧ ∃ ns : List Int, H' L = some (.lst (ns.map V.int)) ∧ ns.length = t ∧ ∀ n ∈ ns, P n
theorem LcI.start {P : Int → Prop} {H H0 : Hp} {b r L : Addr} (b0 : Box H b r) (k : Kp [] H H0) (n : H L = none) (e : H0 L = some (.lst [])) : LcI P H0 b r L 0 H0 := ⟨b0.nl n, Kp.refl _ _, b0.kp k, [], e, rfl, fun _ m => nomatch m⟩
theorem LcI.sz {P : Int → Prop} {H0 H8 H9 : Hp} {b r L : Addr} {t : Nat} (h : LcI P H0 b r L t H8) (ht : t < 100000) (k9 : Kp [b] H8 H9) : ∃ acc, H9 L = some (.lst acc) ∧ acc.length < sizeLine ∧ ∃ ns : List Int, acc = ns.map V.int ∧ H8 L = some (.lst (ns.map V.int)) ∧ ns.length = t ∧ ∀ n ∈ ns, P n := by
  obtain ⟨n, k, b8, ns, e, hl, hp⟩ := h
  exact ⟨_, k9.at1 n.1.symm e, szl (by rw [List.length_map]; omega), ns, rfl, e, hl, hp⟩
theorem LcI.push {P : Int → Prop} {H0 H8 H9 H10 : Hp} {b r L : Addr} {t : Nat} {ns : List Int} {d : Int} (h : LcI P H0 b r L t H8) (hl : ns.length = t) (hp : ∀ n ∈ ns, P n) (k9 : Kp [b] H8 H9) (b9 : Box H9 b r) (hd : P d) (k10 : Kp [L] H9 H10) (e : H10 L = some (.lst (ns.map V.int ++ [.int d]))) : LcI P H0 b r L (t + 1) H10 := by
  obtain ⟨n, k, _⟩ := h
  refine ⟨n, (k.tr1 k9 (.inl (by simp))).tr1 k10 (.inl (by simp)), b9.kp1 k10 n, ns ++ [d], by rw [e, List.map_append]; rfl, by simp [hl], fun m hm => ?_⟩
  rcases List.mem_append.mp hm with z | z
  · exact hp m z
  · rw [List.mem_singleton.mp z]; exact hd
theorem LcI.kp {P : Int → Prop} {H H0 H' : Hp} {b r L : Addr} {t : Nat} (h : LcI P H0 b r L t H') (k : Kp [] H H0) (n : H L = none) : Kp [b] H H' :=
  (k.wk (B := [b]) fun _ m => nomatch m).tr h.2.1 fun l m => by
    rcases List.mem_cons.mp m with z | z
    · exact .inl (by simp [z])
    · rw [List.mem_singleton.mp z]; exact .inr n
theorem Box.neInts {H : Hp} {b r e : Addr} {ns : List Int} (bx : Box H b r) (h : H e = some (.lst (ns.map V.int))) : e ≠ b := by
  obtain ⟨i, ms, h1, _, _⟩ := bx
  intro q
  rw [q, h1] at h
  exact noInts rfl ns (Option.some.inj h)
/-- facts that stand while the box is drawn from -/
class CarB (b r : Addr) (H H' : Hp) (P : Prop) (P' : outParam Prop) : Prop where
  kp : Box H b r → Kp [b] H H' → P → P'
theorem carB {b r : Addr} {H H' : Hp} {P P' : Prop} [c : CarB b r H H' P P'] (bx : Box H b r) (k : Kp [b] H H') (h : P) : P' := c.kp bx k h
/-- not the box -/
class Nb (p b : Addr) : Prop where
  ne : p ≠ b
section
variable {H H' : Hp} {b r : Addr}
instance : Car H H' (Box H b r) (Box H' b r) := ⟨fun k n ⟨i, ns, h1, h2, h3⟩ => ⟨i, ns, k.atN n h1, h2, k.atN n h3⟩⟩
instance {K : PySem.W.Frag} {p : Addr} {xs : List V} : CarB b r H H' (SqT K H p xs) (SqT K H' p xs) := ⟨fun _ k h => k.tup h⟩
instance {p : Addr} {xs : List V} : CarB b r H H' (H p = some (.tup xs)) (H' p = some (.tup xs)) := ⟨fun _ k h => k.t _ _ h⟩
instance {p : Addr} {ns : List Int} : CarB b r H H' (H p = some (.lst (ns.map V.int))) (H' p = some (.lst (ns.map V.int))) := ⟨fun bx k h => k.at1 (bx.neInts h) h⟩
instance {p x y : Addr} : CarB b r H H' (H p = some (.lst [.ref x, .ref y])) (H' p = some (.lst [.ref x, .ref y])) := ⟨fun bx k h => k.at1 (fun e => by
  obtain ⟨i, ms, h1, _, _⟩ := bx
  rw [e, h1] at h
  exact nomatch (List.cons.inj (List.cons.inj (HO.lst.inj (Option.some.inj h))).2).1) h⟩
instance {p C dx : Addr} {fs : List (Str × V)} : CarB b r H H' (H p = some (.ins C dx fs)) (H' p = some (.ins C dx fs)) := ⟨fun bx k h => bx.other k (fun _ z => nomatch z) h⟩
instance {p : Addr} {ds : List (List Key × V)} : CarB b r H H' (H p = some (.dT ds)) (H' p = some (.dT ds)) := ⟨fun bx k h => bx.other k (fun _ z => nomatch z) h⟩
instance {p : Addr} {o : HO} [n : Nb p b] : CarB b r H H' (H p = some o) (H' p = some o) := ⟨fun _ k h => k.at1 n.ne h⟩
instance {K : PySem.W.Frag} {p : Addr} {ns : List Int} : CarB b r H H' (SqL K H p (ns.map V.int)) (SqL K H' p (ns.map V.int)) := ⟨fun bx k h => bx.ints k h⟩
instance {H0 : Hp} : CarB b r H H' (Fr [b] H0 H) (Fr [b] H0 H') := ⟨fun _ k h => (h.k.tr1 k (.inl (by simp)) : Kp [b] H0 H')⟩
instance {H0 : Hp} : CarB b r H H' (Kp [b] H0 H ∧ True) (Kp [b] H0 H' ∧ True) := ⟨fun _ k h => ⟨h.1.tr1 k (.inl (by simp)), trivial⟩⟩
end
/-! rows -/
/-- tuples of ints -/
def RowsAt (K : PySem.W.Frag) (H : Hp) (n : Nat) (xs : List V) : Prop := ∀ y ∈ xs, ∃ (q : Addr) (ns : List Int), y = V.ref q ∧ SqT K H q (ns.map V.int) ∧ ns.length ≤ n
theorem RowsAt.kp {K : PySem.W.Frag} {A : List Addr} {H H' : Hp} {n : Nat} {xs : List V} (h : RowsAt K H n xs) (k : Kp A H H') : RowsAt K H' n xs := fun y hy => by
  obtain ⟨q, ns, e, h1, h2⟩ := h y hy
  exact ⟨q, ns, e, k.tup h1, h2⟩
theorem RowsAt.snoc {K : PySem.W.Frag} {H : Hp} {n : Nat} {xs : List V} {q : Addr} {ns : List Int} (h : RowsAt K H n xs) (h1 : SqT K H q (ns.map V.int)) (h2 : ns.length ≤ n) : RowsAt K H n (xs ++ [.ref q]) := fun y hy => by
  rcases List.mem_append.mp hy with m | m
  · exact h y m
  · exact ⟨q, ns, List.mem_singleton.mp m, h1, h2⟩
theorem cut_ints (rs : List Int) (lo hi : Option Int) : ∃ ns : List Int, cutV (rs.map V.int) lo hi = ns.map V.int ∧ ns.length ≤ rs.length ∧ ∀ n ∈ ns, n ∈ rs := by
  refine ⟨(rs.drop (HT.sIx (rs.map V.int).length 0 lo)).take (HT.sIx (rs.map V.int).length (rs.map V.int).length hi - HT.sIx (rs.map V.int).length 0 lo), ?_, ?_, fun n m => List.mem_of_mem_drop (List.mem_of_mem_take m)⟩
  · unfold cutV
    rw [List.map_take, List.map_drop]
  · rw [List.length_take, List.length_drop]; omega
def sp_law (K : PySem.W.Frag) : Sp := fun vs H Q _ => ∃ (a : Addr) (ns : List Int), vs = [.ref a] ∧ SqL K H a (ns.map V.int) ∧ ns.length ≤ 63 ∧ ∀ H', Q (.bl true) H'
/-! pow2 -/
/-! how often two divides -/
theorem and_odd (k : Nat) : (2 * k + 1) &&& (2 * k) = 2 * k := by
  apply Nat.eq_of_testBit_eq
  intro i
  cases i with
  | zero => simp
  | succ i =>
    have e1 : (2 * k + 1) / 2 = k := by omega
    have e2 : 2 * k / 2 = k := by omega
    rw [Nat.testBit_and, Nat.testBit_succ, Nat.testBit_succ, e1, e2, Bool.and_self]
theorem and_even (k : Nat) (h : 0 < k) : (2 * k) &&& (2 * k - 1) = 2 * (k &&& (k - 1)) := by
  apply Nat.eq_of_testBit_eq
  intro i
  have e : (2 * k - 1) / 2 = k - 1 := by omega
  have e2 : 2 * k / 2 = k := by omega
  have e3 : 2 * (k &&& (k - 1)) / 2 = k &&& (k - 1) := by omega
  cases i with
  | zero => simp [Nat.testBit_and]
  | succ i => rw [Nat.testBit_and, Nat.testBit_succ, Nat.testBit_succ, Nat.testBit_succ, e, e2, e3, Nat.testBit_and]
theorem and_le (k : Nat) : k &&& (k - 1) ≤ k := Nat.and_le_left
theorem lo_spec : ∀ n : Nat, 0 < n → ∃ v, n - (n &&& (n - 1)) = 2 ^ v ∧ n % 2 ^ v = 0 ∧ n % 2 ^ (v + 1) ≠ 0 := by
  intro n
  induction n using Nat.strongRecOn with
  | ind n ih =>
    intro h
    rcases Nat.mod_two_eq_zero_or_one n with e | e
    · have hk : 0 < n / 2 := by omega
      obtain ⟨v, h1, h2, h3⟩ := ih (n / 2) (by omega) hk
      have en : n = 2 * (n / 2) := by omega
      refine ⟨v + 1, ?_, ?_, ?_⟩
      · have := and_even (n / 2) hk
        rw [← en] at this
        have l := and_le (n / 2)
        rw [this, Nat.pow_succ, ← h1]; omega
      · rw [en, Nat.pow_succ, Nat.mul_comm (2 ^ v) 2, Nat.mul_mod_mul_left, h2]
      · rw [en, Nat.pow_succ, Nat.mul_comm (2 ^ (v + 1)) 2, Nat.mul_mod_mul_left]; omega
    · have en : n = 2 * (n / 2) + 1 := by omega
      refine ⟨0, ?_, by omega, by simpa using by omega⟩
      have := and_odd (n / 2)
      have e1 : n - 1 = 2 * (n / 2) := by omega
      rw [e1]
      have e2 : n &&& (2 * (n / 2)) = 2 * (n / 2) := by
        have : n &&& (2 * (n / 2)) = (2 * (n / 2) + 1) &&& (2 * (n / 2)) := by rw [← en]
        rw [this]; exact and_odd _
      rw [e2]; omega
/-- how many rounds a round goes back to -/
def cntB (n : Int) : Nat := Builtin.Int.intBits (Builtin.bitAnd n (-n))
theorem cntB_zero : cntB 0 = 0 := by decide
theorem cntB_pos {n : Int} (h : 0 < n) : ∃ v : Nat, cntB n = v + 1 ∧ n.toNat % 2 ^ v = 0 ∧ n.toNat % 2 ^ (v + 1) ≠ 0 := by
  obtain ⟨v, h1, h2, h3⟩ := lo_spec n.toNat (by omega)
  refine ⟨v, ?_, h2, h3⟩
  unfold cntB
  have e : Builtin.bitAnd n (-n) = ((2 ^ v : Nat) : Int) := by
    rw [PyProof.Rows.bitAnd_pn (by omega) (by omega)]
    have e1 : (Builtin.bitNot (-n)).toNat = n.toNat - 1 := by unfold Builtin.bitNot; omega
    have l := and_le n.toNat
    rw [e1]
    clear h2 h3
    generalize n.toNat &&& (n.toNat - 1) = c at *
    omega
  rw [e]
  unfold Builtin.Int.intBits
  have p : 0 < 2 ^ v := Nat.pow_pos (by decide)
  have ne : (((2 ^ v : Nat) : Int) == 0) = false := beq_eq_false_iff_ne.mpr (by omega)
  rw [ne]
  simp only [Bool.false_eq_true, if_false, Int.natAbs_natCast, Nat.log2_two_pow]
theorem dvd_iff {n v i : Nat} (h2 : n % 2 ^ v = 0) (h3 : n % 2 ^ (v + 1) ≠ 0) : n % 2 ^ i = 0 ↔ i ≤ v := by
  constructor
  · intro h
    by_cases hi : i ≤ v
    · exact hi
    · have d : 2 ^ (v + 1) ∣ n := Nat.dvd_trans (Nat.pow_dvd_pow 2 (by omega)) (Nat.dvd_of_mod_eq_zero h)
      exact absurd (Nat.mod_eq_zero_of_dvd d) h3
  · intro hi
    exact Nat.mod_eq_zero_of_dvd (Nat.dvd_trans (Nat.pow_dvd_pow 2 hi) (Nat.dvd_of_mod_eq_zero h2))
theorem cast_pow (i : Nat) : ((2 ^ i : Nat) : Int) = (2 : Int) ^ i := by simp
theorem cnt_lt {n : Int} (h : 0 ≤ n) (i : Nat) : i < cntB n ↔ (2 : Int) ^ i ≤ n ∧ n % 2 ^ i = 0 := by
  by_cases h0 : n = 0
  · subst h0
    rw [cntB_zero]
    have p : (0 : Int) < 2 ^ i := by rw [← cast_pow]; exact_mod_cast Nat.pow_pos (by decide)
    omega
  · obtain ⟨v, e, h2, h3⟩ := cntB_pos (n := n) (by omega)
    rw [e]
    have en : n = ((n.toNat : Nat) : Int) := by omega
    have em : n % 2 ^ i = ((n.toNat % 2 ^ i : Nat) : Int) := by
      conv => lhs; rw [en, ← cast_pow]
      exact (Int.natCast_emod _ _).symm
    constructor
    · intro hi
      have z := (dvd_iff h2 h3 (i := i)).mpr (by omega)
      have l : 2 ^ i ≤ n.toNat := Nat.le_of_dvd (by omega) (Nat.dvd_of_mod_eq_zero z)
      rw [em, z]
      refine ⟨?_, rfl⟩
      rw [en, ← cast_pow]; exact_mod_cast l
    · rintro ⟨_, hm⟩
      rw [em] at hm
      have := (dvd_iff h2 h3 (i := i)).mp (by omega)
      omega
theorem cnt_le {n : Int} {m : Nat} (h : 0 ≤ n) (hm : n < 2 ^ m) : cntB n ≤ m := by
  by_cases hc : m < cntB n
  · have := ((cnt_lt h m).mp hc).1
    omega
  · omega
/-- the rounds back -/
def bk (n : Int) : List Int := (List.range (cntB n)).map fun i => n - 2 ^ i
theorem bk_len (n : Int) : (bk n).length = cntB n := by unfold bk; rw [List.length_map, List.length_range]
def bkTo (n : Int) (i : Nat) : List Int := (List.range i).map fun i => n - 2 ^ i
theorem bkTo_succ (n : Int) (i : Nat) : bkTo n (i + 1) = bkTo n i ++ [n - 2 ^ i] := by unfold bkTo; rw [List.range_succ, List.map_append]; rfl
theorem bkTo_len (n : Int) (i : Nat) : (bkTo n i).length = i := by unfold bkTo; rw [List.length_map, List.length_range]
/-! things -/
def isThing (ns : List Int) : Bool :=
  if ns.length = 0 then false
  else if ns.getD 0 0 = 1 then decide (ns.length = 3)
  else if ns.getD 0 0 = 2 then decide (2 ≤ ns.length ∧ 2 + ns.getD 1 0 ≤ ns.length)
  else if ns.getD 0 0 = 4 then decide (6 ≤ ns.length ∧ 1 ≤ ns.getD 4 0 ∧ ns.length = 6 + cntB (ns.getD 2 0))
  else decide (ns.getD 0 0 = 5 ∧ ns.length = 2)
theorem at_getD {ns : List Int} (i : Nat) (h : i < ns.length) : atI (ns.map V.int) (i : Int) = some (.int (ns.getD i 0)) := by
  refine atI_nat ?_
  rw [List.getElem?_map, List.getElem?_eq_getElem h, List.getD_eq_getElem?_getD, List.getElem?_eq_getElem h]; rfl
/-! _law_cell -/
section
local macro_rules | `(tactic| wtm_at "d") => `(tactic| first | ((with_reducible show Z.XE _ (PySem.Expr.Call (PySem.Expr.Name "len" _) (_ :: _) [] _) _ _ _); refine Z.xe_callB (id := "len") (by assumption) (by wtm_at "m") T.b_len (by decide +kernel) ?_) | fail)
def sp_cell (K : PySem.W.Frag) : Sp := fun vs H Q _ => ∃ (a : Addr) (ns : List Int) (k : Int), vs = [.ref a, .int k] ∧ SqL K H a (ns.map V.int) ∧ 0 ≤ k ∧ ∀ v : Int, Q (.int v) H
theorem ok__law_cell (T : Txt P w K mg base) : DefOk P w K mg base "_law_cell" ["script", "k"] 1 (sp_cell K) := by
  refine DefOk.by T.d__law_cell sc__law_cell oc__law_cell (fun vs H Q E h => ?_) (fun X e1 e2 e3 e4 e5 C H vs Q E h => ?_)
  · obtain ⟨a, ns, k, rfl, _⟩ := h; rfl
  · obtain ⟨a, ns, k, rfl, hS, h0, q⟩ := h
    wtm_at "go"
    wtm_at "w"
    refine ite_d (fun h => ?_) (fun h => ?_)
    · rw [List.length_map] at h
      wtm_at "w"
      have hk : k.toNat < ns.length := by omega
      exact vx_lst hS (at_map h0 (List.getElem?_eq_getElem hk)) (q _)
    · wtm_at "w"
      exact q _
end
/-! _law_row -/
section
local macro_rules | `(tactic| wtm_at "d") => `(tactic| first | ((with_reducible show Z.XE _ (PySem.Expr.Call (PySem.Expr.Name "abs" _) (_ :: _) [] _) _ _ _); refine Z.xe_callB (id := "abs") (by assumption) (by wtm_at "m") T.b_abs (by decide +kernel) ?_) | ((with_reducible show Z.XE _ (PySem.Expr.Call (PySem.Expr.Name "int" _) (_ :: _) [] _) _ _ _); refine Z.xe_callTy (id := "int") (by assumption) (by wtm_at "m") T.b_int (by decide +kernel) ?_) | ((with_reducible show Z.XE _ (PySem.Expr.Name "int" _) _ _ _); refine Z.xe_ty (id := "int") (by assumption) (by wtm_at "m") T.b_int (by decide +kernel) ?_) | ((with_reducible show Z.XE _ (PySem.Expr.Call (PySem.Expr.Name "_law_cell" _) (_ :: _) [] _) _ _ _); refine Z.xe_call (by assumption) (Law.ok__law_cell T) (by wtm_at "m") (by omega) ?_) | fail)
def sp_row (K : PySem.W.Frag) : Sp := fun vs H Q _ => ∃ (a : Addr) (ns : List Int) (f l : Int), vs = [.ref a, .int f, .int l] ∧ SqL K H a (ns.map V.int) ∧ 0 ≤ f ∧ f ≤ 100 ∧ 0 ≤ l ∧ l ≤ 100 ∧
  ∀ p H' (rs : List Int), Kp [] H H' → H p = none → H' p = some (.lst (rs.map V.int)) → (∀ v ∈ rs, 0 ≤ v ∧ v < 840) → Q (.ref p) H'
/-- the row so far -/
def RowI (H H' : Hp) (r : Addr) (n : Nat) : Prop := H r = none ∧ Kp [] H H' ∧ ∃ rs : List Int, H' r = some (.lst (rs.map V.int)) ∧ rs.length ≤ n ∧ ∀ v ∈ rs, 0 ≤ v ∧ v < 840
theorem RowI.push {H H' H2 : Hp} {r : Addr} {n : Nat} {rs : List Int} {v : Int} (h : H r = none) (k1 : Kp [] H H') (e : H' r = some (.lst (rs.map V.int))) (hl : rs.length ≤ n) (hv : ∀ v ∈ rs, 0 ≤ v ∧ v < 840) (k2 : Kp [r] H' H2) (e2 : H2 r = some (.lst (rs.map V.int ++ [.int v]))) (h0 : 0 ≤ v ∧ v < 840) : RowI H H2 r (n + 1) := by
  refine ⟨h, k1.tr1 k2 (.inr h), rs ++ [v], ?_, ?_, ?_⟩
  · rw [e2, List.map_append]; rfl
  · rw [List.length_append]; simpa using hl
  · intro u hu
    rcases List.mem_append.mp hu with m | m
    · exact hv u m
    · rw [List.mem_singleton.mp m]; exact h0
theorem ok__law_row (T : Txt P w K mg base) : DefOk P w K mg base "_law_row" ["script", "first", "last"] 2 (sp_row K) := by
  refine DefOk.by T.d__law_row sc__law_row oc__law_row (fun vs H Q E h => ?_) (fun X e1 e2 e3 e4 e5 C H vs Q E h => ?_)
  · obtain ⟨a, ns, f, l, rfl, _⟩ := h; rfl
  · obtain ⟨a, ns, f, l, rfl, hS, f0, f1, l0, l1, q⟩ := h
    wtm_at "go"
    wtm_at "w"
    intro r H1 k1 nr hr
    wtm_at "w"
    refine xs_forR2 (by assumption) (by wtm_at "m") T.b_range ?_
    wtm_at "w"
    refine ⟨f, l, rfl, by omega, fun i σ H' => ∃ vk vc vt, σ = [some (.ref a), some (.int f), some (.int l), some (.ref r), vk, vc, vt] ∧ RowI H H' r (60 * i), ⟨none, none, none, rfl, nr, k1, [], hr, Nat.le_refl _, by simp⟩, ?_, ?_⟩
    · rintro i σ' H2 hi ⟨vk, vc, vt, rfl, n2, k2, rs, e2, len2, hv2⟩
      have hS2 : SqL X.K H2 a (ns.map V.int) := k2.lst0 hS
      wtm_at "w"
      refine ⟨a, ns, f + i, rfl, hS2, by omega, fun c => ?_⟩
      wtm_at "w"
      refine vo_mul (cmulL ⟨by decide, by decide⟩) ?_
      wtm_at "w"
      generalize hc : ((if 2 * c < 0 then -(2 * c) else 2 * c) + if decide (c < 0) = true then 1 else 0 : Int) = c'
      refine vo_pow ⟨by decide, by decide, by decide⟩ ?_
      wtm_at "w"
      refine ite_d (fun h => ?_) (fun h => ?_)
      · wtm_at "w"
        refine xs_forR1 (by assumption) (by wtm_at "m") T.b_range ?_
        wtm_at "w"
        refine ⟨60, rfl, by decide, by decide, fun t σ H' => ∃ vk, ∃ c : Int, ∃ vt, σ = [some (.ref a), some (.int f), some (.int l), some (.ref r), vk, some (.int c), vt] ∧ RowI H H' r (60 * i + t), ⟨_, _, _, rfl, n2, k2, rs, e2, by omega, hv2⟩, ?_, ?_⟩
        · rintro t σ' H3 ht ⟨vk, d, vt, rfl, n3, k3, rs3, e3, len3, hv3⟩
          have ht' : t < 60 := ht
          have hi' : i < 100 := by omega
          wtm_at "w"
          refine ite_d (fun h => ?_) (fun h => ?_)
          · wtm_at "w"
            refine ⟨e3, szl (by rw [List.length_map]; omega), fun H4 k4 e4 => ?_⟩
            wtm_at "w"
            exact ⟨_, _, _, rfl, RowI.push n3 k3 e3 len3 hv3 k4 e4 ⟨Int.emod_nonneg _ (by decide), Int.emod_lt_of_pos _ (by decide)⟩⟩
          · wtm_at "w"
            exact ⟨_, _, _, rfl, n3, k3, rs3, e3, by omega, hv3⟩
        · rintro σ' H3 ⟨vk, d, vt, rfl, n3, k3, rs3, e3, len3, hv3⟩
          wtm_at "w"
          have len3' : rs3.length ≤ 60 * i + 60 := len3
          exact ⟨_, _, _, rfl, n3, k3, rs3, e3, by omega, hv3⟩
      · wtm_at "w"
        refine xs_forR1 (by assumption) (by wtm_at "m") T.b_range ?_
        wtm_at "w"
        refine ⟨10, rfl, by decide, by decide, fun t σ H' => ∃ vt, ∃ c : Int, σ = [some (.ref a), some (.int f), some (.int l), some (.ref r), some (.int (f + i)), some (.int c), vt] ∧ RowI H H' r (60 * i + t), ⟨_, _, rfl, n2, k2, rs, e2, by omega, hv2⟩, ?_, ?_⟩
        · rintro t σ' H3 ht ⟨vt, d, rfl, n3, k3, rs3, e3, len3, hv3⟩
          have ht' : t < 10 := ht
          have hi' : i < 100 := by omega
          wtm_at "w"
          refine vo_mul (cmulR ⟨by decide, by decide⟩) ?_
          wtm_at "w"
          refine vo_mul (cmulL ⟨by decide, by decide⟩) ?_
          wtm_at "w"
          refine ⟨e3, szl (by rw [List.length_map]; omega), fun H4 k4 e4 => ?_⟩
          wtm_at "w"
          exact ⟨_, _, rfl, RowI.push n3 k3 e3 len3 hv3 k4 e4 ⟨Int.emod_nonneg _ (by decide), Int.emod_lt_of_pos _ (by decide)⟩⟩
        · rintro σ' H3 ⟨vt, d, rfl, n3, k3, rs3, e3, len3, hv3⟩
          wtm_at "w"
          have len3' : rs3.length ≤ 60 * i + 10 := len3
          exact ⟨_, _, _, rfl, n3, k3, rs3, e3, by omega, hv3⟩
    · rintro σ' H2 ⟨vk, vc, vt, rfl, n2, k2, rs, e2, len2, hv2⟩
      wtm_at "w"
      exact q _ _ rs k2 n2 e2 hv2
end
/-! _law_draw -/
section
local macro_rules | `(tactic| wtm_at "d") => `(tactic| first | ((with_reducible show Z.XE _ (PySem.Expr.Call (PySem.Expr.Name "int" _) (_ :: _) [] _) _ _ _); refine Z.xe_callTy (id := "int") (by assumption) (by wtm_at "m") T.b_int (by decide +kernel) ?_) | ((with_reducible show Z.XE _ (PySem.Expr.Name "int" _) _ _ _); refine Z.xe_ty (id := "int") (by assumption) (by wtm_at "m") T.b_int (by decide +kernel) ?_) | ((with_reducible show Z.XE _ (PySem.Expr.Call (PySem.Expr.Name "len" _) (_ :: _) [] _) _ _ _); refine Z.xe_callB (id := "len") (by assumption) (by wtm_at "m") T.b_len (by decide +kernel) ?_) | fail)
def sp_draw : Sp := fun vs H Q _ => ∃ (b r : Addr) (m : Int), vs = [.ref b, .int m] ∧ Box H b r ∧ 0 < m ∧ ∀ (v : Int) H', 0 ≤ v → v < m → Kp [b] H H' → Box H' b r → Q (.int v) H'
theorem ok__law_draw (T : Txt P w K mg base) : DefOk P w K mg base "_law_draw" ["box", "many"] 1 sp_draw := by
  refine DefOk.by T.d__law_draw sc__law_draw oc__law_draw (fun vs H Q E h => ?_) (fun X e1 e2 e3 e4 e5 C H vs Q E h => ?_)
  · obtain ⟨b, r, m, rfl, _⟩ := h; rfl
  · obtain ⟨b, r, m, rfl, bx, hm, q⟩ := h
    have nbr := bx.br
    obtain ⟨i, ns, h1, h2, h3⟩ := bx
    wtm_at "go"
    wtm_at "w"
    refine xs_setIx ?_
    wtm_at "w"
    refine ⟨b, _, 1, 1, rfl, rfl, h1, ix1, fun H2 k2 e2 => ?_⟩
    have e2 : H2 b = some (.lst [.ref r, .int (i + 1)]) := e2
    have h3' : H2 r = some (.lst (ns.map V.int)) := k2.at1 nbr h3
    have hB : Box H2 b r := ⟨i + 1, ns, e2, by omega, h3'⟩
    wtm_at "w"
    refine ite_d (fun h => ?_) (fun h => ?_)
    · rw [List.length_map] at h
      wtm_at "w"
      have hk : i.toNat < ns.length := by omega
      refine vx_lst (Z.SqL.of' h3') (at_map h2 (List.getElem?_eq_getElem hk)) ?_
      wtm_at "w"
      refine vo_mod hm ?_
      exact q _ _ (Int.emod_nonneg _ (by omega)) (Int.emod_lt_of_pos _ hm) k2 hB
    · wtm_at "w"
      refine vo_mul (cmulR ⟨by decide, by decide⟩) ?_
      wtm_at "w"
      refine vo_mod hm ?_
      exact q _ _ (Int.emod_nonneg _ (by omega)) (Int.emod_lt_of_pos _ hm) k2 hB
end
/-! prime -/
def PR : Int := 2305843009213693951
/-! digests -/
/-! what a digest is -/
def mixS (f s n : Int) : Int := (s * f + n + 1) % PR
def mixF (f : Int) (ns : List Int) (s : Int) : Int := ns.foldl (mixS f) s
def dig (b f : Int) (ns : List Int) : Int := (mixF f (ns.length :: ns) 1 * 48271 + mixF f (ns.length :: ns) 1 / 65536) % b
theorem mixS_rng (f s n : Int) : 0 ≤ mixS f s n ∧ mixS f s n < PR := ⟨Int.emod_nonneg _ (by decide), Int.emod_lt_of_pos _ (by decide)⟩
theorem mixF_snoc (f : Int) (ns : List Int) (n s : Int) : mixF f (ns ++ [n]) s = mixS f (mixF f ns s) n := by unfold mixF; rw [List.foldl_append]; rfl
theorem mixF_take {f s n : Int} {ns : List Int} {i : Nat} (h : ns[i]? = some n) : mixF f (ns.take (i + 1)) s = mixS f (mixF f (ns.take i) s) n := by
  rw [List.take_add_one, h]; exact mixF_snoc _ _ _ _
theorem mixF_rng {f : Int} : ∀ (ns : List Int) (s : Int), 0 ≤ s → s < PR → 0 ≤ mixF f ns s ∧ mixF f ns s < PR
  | [], s, h0, h1 => ⟨h0, h1⟩
  | n :: ns, s, _, _ => mixF_rng ns (mixS f s n) (mixS_rng f s n).1 (mixS_rng f s n).2
theorem mulP {s : Int} (h0 : 0 ≤ s) (h1 : s < PR) : -(2 ^ 64) < s ∧ s < 2 ^ 64 := by unfold PR at h1; omega
theorem dig_rng {b f : Int} {ns : List Int} (hb : 0 < b) : 0 ≤ dig b f ns ∧ dig b f ns < b := ⟨Int.emod_nonneg _ (by omega), Int.emod_lt_of_pos _ hb⟩
/-- a mixing at p -/
def mxF (b f : Int) : List (Str × V) := putF "factor" (.int f) (putF "bound" (.int b) [])
theorem mx_b (b f : Int) : (mxF b f).lookup ("bound" : Str) = some (.int b) := by
  unfold mxF; rw [lookup_putF, if_neg (by decide +kernel), lookup_putF, if_pos rfl]
theorem mx_f (b f : Int) : (mxF b f).lookup ("factor" : Str) = some (.int f) := by
  unfold mxF; rw [lookup_putF, if_pos rfl]
def Mx (C : Addr) (H : Hp) (p : Addr) (b f : Int) : Prop := ∃ dx, H p = some (.ins C dx (mxF b f))
theorem Mx.kp {C p : Addr} {H H' : Hp} {b f : Int} (h : Mx C H p b f) (k : Kp [] H H') : Mx C H' p b f := by
  obtain ⟨dx, h⟩ := h
  exact ⟨dx, k.at0 h⟩
theorem Mx.kp1 {C p l : Addr} {H H' : Hp} {b f : Int} {xs : List V} (h : Mx C H p b f) (k : Kp [l] H H') (hl : H l = some (.lst xs)) : Mx C H' p b f := by
  obtain ⟨dx, h⟩ := h
  refine ⟨dx, k.at (fun m => ?_) h⟩
  rw [List.mem_singleton.mp m, hl] at h; cases h
theorem Mx.box {C p b' r : Addr} {H H' : Hp} {b f : Int} (h : Mx C H p b f) (bx : Box H b' r) (k : Kp [b'] H H') : Mx C H' p b f := by
  obtain ⟨dx, h⟩ := h
  exact ⟨dx, bx.other k (fun _ e => nomatch e) h⟩
theorem Mx.new {C p l : Addr} {H H' : Hp} {b f : Int} (h : Mx C H p b f) (n : p ≠ l) (k : Kp [l] H H') : Mx C H' p b f := by
  obtain ⟨dx, h⟩ := h
  exact ⟨dx, k.at1 n h⟩
theorem Mx.nl {C p l : Addr} {H : Hp} {b f : Int} (h : Mx C H p b f) (n : H l = none) : p ≠ l := by
  obtain ⟨dx, h⟩ := h
  exact ne_of_none h n
/-! carm -/
section
variable {H H' : Hp} {b r : Addr}
instance {C p : Addr} {n f : Int} : Car H H' (Mx C H p n f) (Mx C H' p n f) := ⟨fun k nn ⟨dx, h⟩ => ⟨dx, k.atN nn h⟩⟩
instance {C p : Addr} {n f : Int} : CarB b r H H' (Mx C H p n f) (Mx C H' p n f) := ⟨fun bx k h => h.box bx k⟩
end
/-! Mixing -/
section
local macro_rules | `(tactic| wtm_at "d") => `(tactic| fail)
def sp_Mixing (C : Addr) : Sp := fun vs H Q _ => ∃ (z dx : Addr) (b f : Int), vs = [.ref z, .int b, .int f] ∧ H z = some (.ins C dx []) ∧ ∀ H', Kp [z] H H' → Mx C H' z b f → Q .non H'
theorem ok_Mixing (T : Txt P w K mg base) : ClsOk P w K mg base "Mixing" T.C_Mixing ["self", "bound", "factor"] 1 (sp_Mixing T.C_Mixing) := by
  obtain ⟨f, fd, M, F, b⟩ := T.mk_Mixing
  refine ⟨f, fd, fnOk_by F sc_Mixing___init__ oc_Mixing___init__ (fun vs H Q E h => ?_) (fun X e1 e2 e3 e4 e5 C H vs Q E h => ?_), T.mg_Mixing, M, b⟩
  · obtain ⟨z, dx, b, f, rfl, _⟩ := h; rfl
  · obtain ⟨z, dx, b, f, rfl, h1, q⟩ := h
    wtm_at "go"
    refine xs_fld ?_
    wtm_at "w"
    refine ⟨z, _, dx, _, rfl, h1, T.cl_Mixing, T.na_Mixing_bound, by decide, fun H1 k1 e1 => ?_⟩
    wtm_at "w"
    refine xs_fld ?_
    wtm_at "w"
    refine ⟨z, _, dx, _, rfl, e1, T.cl_Mixing, T.na_Mixing_factor, by show 1 < 1000; decide, fun H2 k2 e2 => ?_⟩
    wtm_at "w"
    exact q H2 (k1.tr1 k2 (.inl (by simp))) ⟨dx, e2⟩
end
/-! _mixed -/
section
local macro_rules | `(tactic| wtm_at "d") => `(tactic| first | ((with_reducible show Z.XE _ (PySem.Expr.Name "PRIME" _) _ _ _); refine Z.xe_glob (v := L2.V.int 2305843009213693951) (by assumption) (by wtm_at "m") T.c_PRIME.choose_spec ⟨_, rfl⟩ ?_) | fail)
def sp_mixed (C : Addr) : Sp := fun vs H Q _ => ∃ (p : Addr) (b f s n : Int), vs = [.ref p, .int s, .int n] ∧ Mx C H p b f ∧ 0 ≤ s ∧ s < PR ∧ Q (.int (mixS f s n)) H
theorem ok__mixed (T : Txt P w K mg base) : DefOk P w K mg base "_mixed" ["mixing", "state", "number"] 1 (sp_mixed T.C_Mixing) := by
  refine DefOk.by T.d__mixed sc__mixed oc__mixed (fun vs H Q E h => ?_) (fun X e1 e2 e3 e4 e5 C H vs Q E h => ?_)
  · obtain ⟨p, b, f, s, n, rfl, _⟩ := h; rfl
  · obtain ⟨p, b, f, s, n, rfl, ⟨dx, hp⟩, h0, h1, q⟩ := h
    wtm_at "go"
    wtm_at "w"
    refine xe_fld ?_
    wtm_at "w"
    refine ⟨p, _, dx, _, _, rfl, hp, T.cl_Mixing, T.na_Mixing_factor, mx_f b f, ?_⟩
    refine vo_mul (cmulL (mulP h0 h1)) ?_
    wtm_at "w"
    exact q
end
/-! digest -/
section
local macro_rules | `(tactic| wtm_at "d") => `(tactic| first | ((with_reducible show Z.XE _ (PySem.Expr.Call (PySem.Expr.Name "len" _) (_ :: _) [] _) _ _ _); refine Z.xe_callB (id := "len") (by assumption) (by wtm_at "m") T.b_len (by decide +kernel) ?_) | ((with_reducible show Z.XE _ (PySem.Expr.Call (PySem.Expr.Name "_mixed" _) (_ :: _) [] _) _ _ _); refine Z.xe_call (by assumption) (Law.ok__mixed T) (by wtm_at "m") (by omega) ?_) | fail)
def sp_digest (K : PySem.W.Frag) (C : Addr) : Sp := fun vs H Q _ => ∃ (p r : Addr) (b f : Int) (ns : List Int), vs = [.ref p, .ref r] ∧ Mx C H p b f ∧ SqT K H r (ns.map V.int) ∧ 0 < b ∧ Q (.int (dig b f ns)) H
theorem ok_digest (T : Txt P w K mg base) : DefOk P w K mg base "digest" ["mixing", "row"] 2 (sp_digest K T.C_Mixing) := by
  refine DefOk.by T.d_digest sc_digest oc_digest (fun vs H Q E h => ?_) (fun X e1 e2 e3 e4 e5 C H vs Q E h => ?_)
  · obtain ⟨p, r, b, f, ns, rfl, _⟩ := h; rfl
  · obtain ⟨p, r, b, f, ns, rfl, hm, hr, hb, q⟩ := h
    wtm_at "go"
    wtm_at "w"
    refine ⟨p, b, f, 1, _, rfl, hm, by decide, by decide, ?_⟩
    wtm_at "w"
    refine xs_forT (by assumption) ?_
    wtm_at "w"
    have s0 := mixS_rng f 1 ((ns.map V.int).length : Int)
    refine ⟨r, _, rfl, hr, fun i σ H' => ∃ vn, σ = [some (.ref p), some (.ref r), some (.int (mixF f (ns.take i) (mixS f 1 ((ns.map V.int).length : Int)))), vn] ∧ H' = H, ⟨none, rfl, rfl⟩, ?_, ?_, ?_⟩
    · rintro i σ' H' hi ⟨vn, rfl, rfl⟩
      exact hr
    · rintro i y σ' H' hy ⟨vn, rfl, rfl⟩
      obtain ⟨n, hn, rfl⟩ := map_at hy
      have s1 := mixF_rng (f := f) (ns.take i) _ s0.1 s0.2
      wtm_at "w"
      refine ⟨p, b, f, _, n, rfl, hm, s1.1, s1.2, ?_⟩
      wtm_at "w"
      exact ⟨_, by rw [mixF_take hn], rfl⟩
    · rintro σ' H' ⟨vn, rfl, rfl⟩
      have e : (ns.take (ns.map V.int).length) = ns := by rw [List.length_map]; exact List.take_length
      rw [e]
      have s1 := mixF_rng (f := f) ns _ s0.1 s0.2
      wtm_at "w"
      refine vo_mul (cmulR ⟨by decide, by decide⟩) ?_
      wtm_at "w"
      refine xe_fld ?_
      wtm_at "w"
      obtain ⟨dx, hp⟩ := hm
      refine ⟨p, _, dx, _, _, rfl, hp, T.cl_Mixing, T.na_Mixing_bound, mx_b b f, ?_⟩
      refine vo_mod hb ?_
      have e2 : mixF f ns (mixS f 1 ((ns.map V.int).length : Int)) = mixF f (ns.length :: ns) 1 := by rw [List.length_map]; rfl
      rw [e2]
      exact q
end
/-! seqs -/
theorem map_at_bl {bs : List Bool} {i : Nat} {y : V} (h : (bs.map V.bl)[i]? = some y) : ∃ n, bs[i]? = some n ∧ y = .bl n := by
  rw [List.getElem?_map] at h
  cases e : bs[i]? with
  | none => rw [e] at h; cases h
  | some n => rw [e] at h; exact ⟨n, rfl, (Option.some.inj h).symm⟩
theorem drop_at {α : Type} {l : List α} {t : Nat} {x : α} (h : l[t]? = some x) : l.drop t = x :: l.drop (t + 1) := by
  obtain ⟨h1, h2⟩ := List.getElem?_eq_some_iff.mp h
  rw [List.drop_eq_getElem_cons h1, h2]
theorem at_nat {α : Type} {xs : List α} {t : Nat} {y : α} (h : xs[t]? = some y) : atI xs (t : Int) = some y := by
  have hi := (List.getElem?_eq_some_iff.mp h).1
  unfold atI ixN
  rw [if_pos (by omega), if_pos (by omega)]
  exact h
theorem at_getLast {α : Type} {xs : List α} {v : α} (h : xs.getLast? = some v) : atI xs (-1) = some v := by
  have l : 0 < xs.length := by
    cases xs with
    | nil => cases h
    | cons x xs => simp
  unfold atI ixN
  rw [if_neg (by decide), if_pos (by omega)]
  rw [List.getLast?_eq_getElem?] at h
  simp only [Option.bind]
  rw [← h]
  congr 1
  omega
theorem at_map_nat {ns : List Int} {i : Nat} {x : Int} (h : ns[i]? = some x) : atI (ns.map V.int) (i : Int) = some (.int x) := at_nat (by rw [List.getElem?_map, h]; rfl)
/-! trees -/
/-! where entries part -/
def hf (n : Nat) : Nat := 2 ^ (n - 1).log2
theorem hf_pos (n : Nat) : 0 < hf n := Nat.pow_pos (by decide)
theorem hf_lt {n : Nat} (h : 2 ≤ n) : hf n < n := by
  have := Nat.log2_self_le (n := n - 1) (by omega)
  unfold hf; omega
theorem hf_ge (n : Nat) : n ≤ 2 * hf n := by
  have := Nat.lt_log2_self (n := n - 1)
  unfold hf
  rw [Nat.pow_succ] at this; omega
theorem hf_le {n d : Nat} (h : 2 ≤ n) (hd : n ≤ 2 ^ (d + 1)) : hf n ≤ 2 ^ d := by
  have h1 := hf_lt h
  unfold hf at h1 ⊢
  refine Nat.pow_le_pow_right (by decide) ?_
  have : (n - 1).log2 < d + 1 := (Nat.pow_lt_pow_iff_right (a := 2) (by decide)).mp (by omega)
  omega
theorem rest_le {n d : Nat} (h : 2 ≤ n) (hd : n ≤ 2 ^ (d + 1)) : n - hf n ≤ 2 ^ d := by
  have := hf_le h hd
  have := hf_ge n
  omega
/-- the root of entries -/
def rt (b f : Int) (es : List Int) : Int :=
  if h : 2 ≤ es.length then dig b f [3, rt b f (es.take (hf es.length)), rt b f (es.drop (hf es.length))] else es.headD 0
termination_by es.length
decreasing_by
  · rw [List.length_take]; have := hf_lt h; omega
  · rw [List.length_drop]; have := hf_pos es.length; omega
theorem rt_two {b f : Int} {es : List Int} (h : 2 ≤ es.length) : rt b f es = dig b f [3, rt b f (es.take (hf es.length)), rt b f (es.drop (hf es.length))] := by rw [rt, dif_pos h]
theorem rt_one {b f : Int} {es : List Int} (h : ¬ 2 ≤ es.length) : rt b f es = es.headD 0 := by rw [rt, dif_neg h]
/-- the nodes within, each ahead of those of its parts -/
def nds (b f : Int) (es : List Int) : List (List Int) :=
  if h : 2 ≤ es.length then [3, rt b f (es.take (hf es.length)), rt b f (es.drop (hf es.length))] :: (nds b f (es.take (hf es.length)) ++ nds b f (es.drop (hf es.length))) else []
termination_by es.length
decreasing_by
  · rw [List.length_take]; have := hf_lt h; omega
  · rw [List.length_drop]; have := hf_pos es.length; omega
theorem nds_two {b f : Int} {es : List Int} (h : 2 ≤ es.length) : nds b f es = [3, rt b f (es.take (hf es.length)), rt b f (es.drop (hf es.length))] :: (nds b f (es.take (hf es.length)) ++ nds b f (es.drop (hf es.length))) := by rw [nds, dif_pos h]
theorem nds_one {b f : Int} {es : List Int} (h : ¬ 2 ≤ es.length) : nds b f es = [] := by rw [nds, dif_neg h]
theorem nds_len (b f : Int) : ∀ (d : Nat) (es : List Int), es.length ≤ d → 1 ≤ es.length → (nds b f es).length + 1 = es.length
  | 0, es, h, h1 => by omega
  | d + 1, es, h, h1 => by
    by_cases h2 : 2 ≤ es.length
    · have a := hf_lt h2
      have p := hf_pos es.length
      have i1 := nds_len b f d (es.take (hf es.length)) (by rw [List.length_take]; omega) (by rw [List.length_take]; omega)
      have i2 := nds_len b f d (es.drop (hf es.length)) (by rw [List.length_drop]; omega) (by rw [List.length_drop]; omega)
      rw [List.length_take] at i1
      rw [List.length_drop] at i2
      rw [nds_two h2, List.length_cons, List.length_append]
      omega
    · rw [nds_one h2]; simp; omega
/-- the turns of an index, from the entry up -/
def tn (c i : Nat) : List Bool :=
  if h : 2 ≤ c then (if i < hf c then tn (hf c) i ++ [false] else tn (c - hf c) (i - hf c) ++ [true]) else []
termination_by c
decreasing_by
  · exact hf_lt h
  · have := hf_pos c; omega
theorem tn_lo {c i : Nat} (h : 2 ≤ c) (hi : i < hf c) : tn c i = tn (hf c) i ++ [false] := by rw [tn, dif_pos h, if_pos hi]
theorem tn_hi {c i : Nat} (h : 2 ≤ c) (hi : ¬ i < hf c) : tn c i = tn (c - hf c) (i - hf c) ++ [true] := by rw [tn, dif_pos h, if_neg hi]
theorem tn_one {c i : Nat} (h : ¬ 2 ≤ c) : tn c i = [] := by rw [tn, dif_neg h]
theorem tn_len : ∀ (d c i : Nat), c ≤ 2 ^ d → (tn c i).length ≤ d
  | 0, c, i, h => by rw [tn_one (by simp at h; omega)]; simp
  | d + 1, c, i, h => by
    by_cases h2 : 2 ≤ c
    · by_cases hi : i < hf c
      · have := tn_len d (hf c) i (hf_le h2 h)
        rw [tn_lo h2 hi, List.length_append]; simp; omega
      · have := tn_len d (c - hf c) (i - hf c) (rest_le h2 h)
        rw [tn_hi h2 hi, List.length_append]; simp; omega
    · rw [tn_one h2]; simp
/-- the way of an index -/
def wy (b f : Int) (es : List Int) (i : Nat) : List Int :=
  if h : 2 ≤ es.length then (if i < hf es.length then wy b f (es.take (hf es.length)) i ++ [rt b f (es.drop (hf es.length))] else wy b f (es.drop (hf es.length)) (i - hf es.length) ++ [rt b f (es.take (hf es.length))]) else []
termination_by es.length
decreasing_by
  · rw [List.length_take]; have := hf_lt h; omega
  · rw [List.length_drop]; have := hf_pos es.length; omega
theorem wy_lo {b f : Int} {es : List Int} {i : Nat} (h : 2 ≤ es.length) (hi : i < hf es.length) : wy b f es i = wy b f (es.take (hf es.length)) i ++ [rt b f (es.drop (hf es.length))] := by rw [wy, dif_pos h, if_pos hi]
theorem wy_hi {b f : Int} {es : List Int} {i : Nat} (h : 2 ≤ es.length) (hi : ¬ i < hf es.length) : wy b f es i = wy b f (es.drop (hf es.length)) (i - hf es.length) ++ [rt b f (es.take (hf es.length))] := by rw [wy, dif_pos h, if_neg hi]
theorem wy_one {b f : Int} {es : List Int} {i : Nat} (h : ¬ 2 ≤ es.length) : wy b f es i = [] := by rw [wy, dif_neg h]
theorem wy_len (b f : Int) : ∀ (d : Nat) (es : List Int) (i : Nat), es.length ≤ d → (wy b f es i).length = (tn es.length i).length
  | 0, es, i, h => by rw [wy_one (by omega), tn_one (by omega)]; rfl
  | d + 1, es, i, h => by
    by_cases h2 : 2 ≤ es.length
    · have a := hf_lt h2
      have p := hf_pos es.length
      have lt : (es.take (hf es.length)).length = hf es.length := by rw [List.length_take]; omega
      have ld : (es.drop (hf es.length)).length = es.length - hf es.length := by rw [List.length_drop]
      by_cases hi : i < hf es.length
      · have := wy_len b f d (es.take (hf es.length)) i (by omega)
        rw [wy_lo h2 hi, tn_lo h2 hi, List.length_append, List.length_append, this, lt]; rfl
      · have := wy_len b f d (es.drop (hf es.length)) (i - hf es.length) (by omega)
        rw [wy_hi h2 hi, tn_hi h2 hi, List.length_append, List.length_append, this, ld]; rfl
    · rw [wy_one h2, tn_one h2]; rfl
/-- slices by numbers -/
theorem cut_take (xs : List V) (k : Nat) (h : k ≤ xs.length) : cutV xs none (some (k : Int)) = xs.take k := by
  unfold cutV
  rw [HT.sIx_none, HT.sIx_nat, Nat.min_eq_left h]; simp
theorem cut_drop (xs : List V) (k : Nat) (h : k ≤ xs.length) : cutV xs (some (k : Int)) none = xs.drop k := by
  unfold cutV
  rw [HT.sIx_none, HT.sIx_nat, Nat.min_eq_left h]
  exact List.take_of_length_le (by rw [List.length_drop]; omega)
theorem bits_log {n : Nat} (h : 0 < n) : Builtin.Int.intBits (n : Int) = n.log2 + 1 := by
  unfold Builtin.Int.intBits
  have ne : ((n : Int) == 0) = false := beq_eq_false_iff_ne.mpr (by omega)
  rw [ne]
  simp
/-! tups -/
/-- rows that are tuples of these ints -/
def TupsAt (K : PySem.W.Frag) (H : Hp) (vs : List V) (nss : List (List Int)) : Prop := DpAll K H vs (nss.map fun ns => PyData.tuple (ns.map PyData.int))
theorem dpAll_app {K : PySem.W.Frag} {H : Hp} : ∀ {vs us : List V} {ds es : List PyData}, DpAll K H vs ds → DpAll K H us es → DpAll K H (vs ++ us) (ds ++ es)
  | _, _, _, _, .nil, b => b
  | _, _, _, _, .cons h a, b => .cons h (dpAll_app a b)
theorem TupsAt.app {K : PySem.W.Frag} {H : Hp} {vs us : List V} {a b : List (List Int)} (h : TupsAt K H vs a) (g : TupsAt K H us b) : TupsAt K H (vs ++ us) (a ++ b) := by
  unfold TupsAt
  rw [List.map_append]
  exact dpAll_app h g
theorem TupsAt.kp {K : PySem.W.Frag} {H H' : Hp} {vs : List V} {a : List (List Int)} (h : TupsAt K H vs a) (k : Kp [] H H') : TupsAt K H' vs a := dpAll_kp k h
theorem TupsAt.len {K : PySem.W.Frag} {H : Hp} {vs : List V} {a : List (List Int)} (h : TupsAt K H vs a) : vs.length = a.length := by
  have := dpAll_len h
  rw [this, List.length_map]
theorem len_take {es : List Int} (h : 2 ≤ es.length) : (es.take (hf es.length)).length = hf es.length := by
  have := hf_lt h
  rw [List.length_take]; omega
theorem dpAll_intsInv {K : PySem.W.Frag} {H : Hp} : ∀ {ns : List Int} {vs : List V}, DpAll K H vs (ns.map PyData.int) → vs = ns.map V.int
  | [], _, .nil => rfl
  | n :: ns, _, .cons h a => by
    cases h
    rw [dpAll_intsInv a]; rfl
theorem dp_Tinv {K : PySem.W.Frag} {H : Hp} {v : V} {ns : List Int} (h : Dp K H v (.tuple (ns.map PyData.int))) : ∃ p, v = .ref p ∧ SqT K H p (ns.map V.int) := by
  cases h with
  | tup hx a => exact ⟨_, rfl, by rw [← dpAll_intsInv a]; exact hx⟩
theorem TupsAt.at {K : PySem.W.Frag} {H : Hp} {vs : List V} {nss : List (List Int)} {i : Nat} {v : V} (h : TupsAt K H vs nss) (hv : vs[i]? = some v) : ∃ ns p, nss[i]? = some ns ∧ v = .ref p ∧ SqT K H p (ns.map V.int) := by
  have hi : i < vs.length := (List.getElem?_eq_some_iff.mp hv).1
  have hl := h.len
  have hn : nss[i]? = some nss[i] := List.getElem?_eq_getElem (by omega)
  obtain ⟨v', h1, h2⟩ := dpAll_at h (i := i) (d := .tuple (nss[i].map PyData.int)) (by rw [List.getElem?_map, hn]; rfl)
  rw [hv] at h1
  cases h1
  obtain ⟨p, e, hp⟩ := dp_Tinv h2
  exact ⟨_, p, hn, e, hp⟩
theorem TupsAt.kpA {K : PySem.W.Frag} {H H' : Hp} {A : List Addr} (k : Kp A H H') : ∀ {a : List (List Int)} {vs : List V}, TupsAt K H vs a → TupsAt K H' vs a
  | [], _, .nil => .nil
  | n :: ns, _, .cons h a => by
    obtain ⟨p, rfl, hp⟩ := dp_Tinv h
    exact .cons (dp_T (k.tup hp)) (TupsAt.kpA k a)
/-! climbs -/
/-! a digest and a way climb -/
def nodeOf (s : Bool) (e w : Int) : List Int := if s = true then [3, w, e] else [3, e, w]
def nup (b f : Int) : List Bool → Int → List Int → List (List Int)
  | s :: ss, e, w :: ws => nodeOf s e w :: nup b f ss (dig b f (nodeOf s e w)) ws
  | _, _, _ => []
def cl (b f : Int) : List Bool → Int → List Int → Int
  | s :: ss, e, w :: ws => cl b f ss (dig b f (nodeOf s e w)) ws
  | _, e, _ => e
theorem nodeOf_len (s : Bool) (e w : Int) : (nodeOf s e w).length = 3 := by cases s <;> rfl
theorem nup_nil {b f e : Int} {ws : List Int} : nup b f [] e ws = [] := by simp [nup]
theorem cl_nil {b f e : Int} {ws : List Int} : cl b f [] e ws = e := by simp [cl]
theorem nup_len (b f : Int) : ∀ (ss : List Bool) (e : Int) (ws : List Int), ss.length = ws.length → (nup b f ss e ws).length = ss.length
  | [], e, ws, _ => by rw [nup_nil]; rfl
  | s :: ss, e, [], h => nomatch h
  | s :: ss, e, w :: ws, h => by
    rw [nup, List.length_cons, List.length_cons, nup_len b f ss _ ws (Nat.succ.inj h)]
/-- the last node's digest is the root -/
theorem cl_last (b f : Int) : ∀ (ss : List Bool) (e : Int) (ws : List Int) (n : List Int), (nup b f ss e ws).getLast? = some n → cl b f ss e ws = dig b f n
  | [], e, ws, n, h => by rw [nup_nil] at h; cases h
  | s :: ss, e, [], n, h => by simp [nup] at h
  | s :: ss, e, w :: ws, n, h => by
    rw [nup, List.getLast?_cons] at h
    rw [cl]
    cases g : (nup b f ss (dig b f (nodeOf s e w)) ws).getLast? with
    | some m =>
      rw [g] at h
      rw [cl_last b f ss _ ws m g]
      exact congrArg _ (Option.some.inj h)
    | none =>
      rw [g] at h
      have e1 : nodeOf s e w = n := Option.some.inj h
      have e2 := List.getLast?_eq_none_iff.mp g
      rw [← e1]
      cases ss with
      | nil => rw [cl_nil]
      | cons s' ss =>
        cases ws with
        | nil => simp [cl]
        | cons w' ws => rw [nup] at e2; cases e2
/-! climbs_up -/
/-! a way climbs from its entry to the root -/
theorem cl_snoc (b f : Int) : ∀ (ss : List Bool) (e : Int) (ws : List Int) (s : Bool) (w : Int), ss.length = ws.length → cl b f (ss ++ [s]) e (ws ++ [w]) = dig b f (nodeOf s (cl b f ss e ws) w)
  | [], e, [], s, w, _ => by simp [cl]
  | [], e, _ :: _, s, w, h => nomatch h
  | _ :: _, e, [], s, w, h => nomatch h
  | x :: ss, e, y :: ws, s, w, h => by
    show cl b f (ss ++ [s]) (dig b f (nodeOf x e y)) (ws ++ [w]) = _
    rw [cl_snoc b f ss _ ws s w (Nat.succ.inj h)]
    rfl
theorem cl_wy (b f : Int) : ∀ (d : Nat) (es : List Int) (i : Nat) (x : Int), es.length ≤ d → es[i]? = some x → cl b f (tn es.length i) x (wy b f es i) = rt b f es
  | 0, es, i, x, h, hx => by
    have := (List.getElem?_eq_some_iff.mp hx).1
    omega
  | d + 1, es, i, x, h, hx => by
    have il := (List.getElem?_eq_some_iff.mp hx).1
    by_cases h2 : 2 ≤ es.length
    · have a := hf_lt h2
      have p := hf_pos es.length
      have lt : (es.take (hf es.length)).length = hf es.length := by rw [List.length_take]; omega
      have ld : (es.drop (hf es.length)).length = es.length - hf es.length := by rw [List.length_drop]
      by_cases hi : i < hf es.length
      · have ih := cl_wy b f d (es.take (hf es.length)) i x (by omega) (by rw [List.getElem?_take, if_pos hi]; exact hx)
        have wl := wy_len b f d (es.take (hf es.length)) i (by omega)
        rw [lt] at ih wl
        rw [wy_lo h2 hi, tn_lo h2 hi, cl_snoc b f _ _ _ _ _ wl.symm, ih, rt_two h2]
        rfl
      · have ih := cl_wy b f d (es.drop (hf es.length)) (i - hf es.length) x (by omega) (by rw [List.getElem?_drop, show hf es.length + (i - hf es.length) = i by omega]; exact hx)
        have wl := wy_len b f d (es.drop (hf es.length)) (i - hf es.length) (by omega)
        rw [ld] at ih wl
        rw [wy_hi h2 hi, tn_hi h2 hi, cl_snoc b f _ _ _ _ _ wl.symm, ih, rt_two h2]
        rfl
    · have i0 : i = 0 := by omega
      rw [tn_one h2, wy_one h2, cl_nil, rt_one h2]
      cases es with
      | nil => simp at il
      | cons y ys => rw [i0] at hx; exact (Option.some.inj hx).symm
/-! _first_count -/
section
local macro_rules | `(tactic| wtm_at "d") => `(tactic| fail)
def sp_fc : Sp := fun vs H Q _ => ∃ n : Nat, vs = [.int n] ∧ 2 ≤ n ∧ n < 2 ^ 70 ∧ Q (.int (hf n)) H
theorem ok__first_count (T : Txt P w K mg base) : DefOk P w K mg base "_first_count" ["count"] 1 sp_fc := by
  refine DefOk.by T.d__first_count sc__first_count oc__first_count (fun vs H Q E h => ?_) (fun X e1 e2 e3 e4 e5 C H vs Q E h => ?_)
  · obtain ⟨v, rfl, _⟩ := h; rfl
  · obtain ⟨n, rfl, h2, h64, q⟩ := h
    wtm_at "go"
    wtm_at "w"
    refine xe_bits ?_
    wtm_at "w"
    have e : ((n : Int) - 1) = ((n - 1 : Nat) : Int) := by omega
    rw [e, bits_log (by omega)]
    have l : (n - 1).log2 < 70 := by
      refine (Nat.pow_lt_pow_iff_right (a := 2) (by decide)).mp ?_
      have := Nat.log2_self_le (n := n - 1) (by omega)
      omega
    refine vo_shl ⟨by omega, by omega, by decide⟩ ?_
    have e2 : (1 : Int) * 2 ^ ((((n - 1).log2 + 1 : Nat) : Int) - 1).toNat = (hf n : Int) := by
      have e3 : ((((n - 1).log2 + 1 : Nat) : Int) - 1).toNat = (n - 1).log2 := by omega
      rw [e3, Int.one_mul]; unfold hf; simp
    rw [e2]; exact q
end
/-! turns -/
section
local macro_rules | `(tactic| wtm_at "d") => `(tactic| first | ((with_reducible show Z.XE _ (PySem.Expr.Call (PySem.Expr.Name "_first_count" _) (_ :: _) [] _) _ _ _); refine Z.xe_call (by assumption) (Law.ok__first_count T) (by wtm_at "m") (by omega) ?_) | fail)
def sp_turns : Sp := fun vs H Q _ => ∃ (c i : Nat), vs = [.int c, .int i] ∧ 1 ≤ c ∧ c ≤ 2 ^ 68 ∧ i < c ∧ ∀ p H', Kp [] H H' → H p = none → H' p = some (.lst ((tn c i).map V.bl)) → Q (.ref p) H'
theorem ok_turns (T : Txt P w K mg base) : DefOk P w K mg base "turns" ["count", "index"] 2 sp_turns := by
  refine DefOk.by T.d_turns sc_turns oc_turns (fun vs H Q E h => ?_) (fun X e1 e2 e3 e4 e5 C H vs Q E h => ?_)
  · obtain ⟨c, i, rfl, _⟩ := h; rfl
  · obtain ⟨c, i, rfl, c1, c2, ic, q⟩ := h
    have tl := tn_len 68 c i c2
    wtm_at "go"
    wtm_at "w"
    intro L H1 k1 nL hL
    wtm_at "w"
    -- what is found so far, and the rest of it
    refine xs_while (by assumption) (fun m σ H' => ∃ (s j : Nat) (bs : List Bool) (v1 v2 : Option V), σ = [some (.int c), some (.int i), some (.ref L), some (.int s), some (.int j), v1, v2] ∧ m = s ∧ 1 ≤ s ∧ s ≤ c ∧ j < s ∧ tn c i = tn s j ++ bs.reverse ∧ Kp [] H H' ∧ H' L = some (.lst (bs.map V.bl))) ⟨_, c, i, [], none, none, rfl, rfl, c1, Nat.le_refl _, ic, by simp, k1, hL⟩ ?_
    rintro s σ' H2 ⟨s0, j, bs, v1, v2, rfl, rfl, s1, sc, js, e, k2, h2⟩
    have lb : bs.length ≤ 68 := by
      have := congrArg List.length e
      rw [List.length_append, List.length_reverse] at this; omega
    wtm_at "w"
    refine ite_d (fun h => ?_) (fun h => ?_)
    · have s2 : 2 ≤ s := by omega
      have lt := hf_lt s2
      have lp := hf_pos s
      wtm_at "w"
      refine ⟨s, rfl, s2, by omega, ?_⟩
      wtm_at "w"
      refine ⟨h2, szl (by rw [List.length_map]; omega), fun H3 k3 h3 => ?_⟩
      wtm_at "w"
      refine ite_d (fun hj => ?_) (fun hj => ?_)
      · have hj' : ¬ j < hf s := by omega
        wtm_at "w"
        have e1 : ((j : Int) - (hf s : Int)) = ((j - hf s : Nat) : Int) := by omega
        have e2 : ((s : Int) - (hf s : Int)) = ((s - hf s : Nat) : Int) := by omega
        rw [e1, e2]
        refine ⟨s - hf s, by omega, s - hf s, j - hf s, bs ++ [true], _, _, rfl, rfl, by omega, by omega, by omega, ?_, k2.tr1 k3 (.inr nL), ?_⟩
        · rw [e, tn_hi s2 hj', List.reverse_append]; simp
        · rw [h3, List.map_append, decide_eq_true hj]; rfl
      · have hj' : j < hf s := by omega
        wtm_at "w"
        refine ⟨hf s, lt, hf s, j, bs ++ [false], _, _, rfl, rfl, by omega, by omega, hj', ?_, k2.tr1 k3 (.inr nL), ?_⟩
        · rw [e, tn_lo s2 hj', List.reverse_append]; simp
        · rw [h3, List.map_append, decide_eq_false hj]; rfl
    · wtm_at "w"
      refine ⟨L, _, rfl, Z.SqL.of' h2, fun r H3 k3 n3 h3 => ?_⟩
      refine q r H3 (k2.tr0 k3) (k2.n _ n3) ?_
      rw [h3, e, tn_one (by omega)]; simp
end
/-! _nodes_up -/
section
local macro_rules | `(tactic| wtm_at "d") => `(tactic| first | ((with_reducible show Z.XE _ (PySem.Expr.Name "NODE" _) _ _ _); refine Z.xe_glob (v := L2.V.int 3) (by assumption) (by wtm_at "m") T.c_NODE.choose_spec ⟨_, rfl⟩ ?_) | ((with_reducible show Z.XE _ (PySem.Expr.Call (PySem.Expr.Name "digest" _) (_ :: _) [] _) _ _ _); refine Z.xe_call (by assumption) (Law.ok_digest T) (by wtm_at "m") (by omega) ?_) | ((with_reducible show Z.XE _ (PySem.Expr.Call (PySem.Expr.Name "turns" _) (_ :: _) [] _) _ _ _); refine Z.xe_call (by assumption) (Law.ok_turns T) (by wtm_at "m") (by omega) ?_) | fail)
def sp_nup (K : PySem.W.Frag) (C : Addr) : Sp := fun vs H Q _ => ∃ (p w : Addr) (b f : Int) (c i : Nat) (e : Int) (ws : List Int), vs = [.ref p, .int c, .int i, .int e, .ref w] ∧ Mx C H p b f ∧ SqT K H w (ws.map V.int) ∧ 1 ≤ c ∧ c ≤ 2 ^ 68 ∧ i < c ∧ (tn c i).length = ws.length ∧ 0 < b ∧
  ∀ (l : Addr) (us : List V) H', Kp [] H H' → H l = none → H' l = some (.lst us) → TupsAt K H' us (nup b f (tn c i) e ws) → Q (.ref l) H'
theorem ok__nodes_up (T : Txt P w K mg base) : DefOk P w K mg base "_nodes_up" ["mixing", "count", "index", "entry", "way"] 3 (sp_nup K T.C_Mixing) := by
  refine DefOk.by T.d__nodes_up sc__nodes_up oc__nodes_up (fun vs H Q E h => ?_) (fun X e1 e2 e3 e4 e5 C H vs Q E h => ?_)
  · obtain ⟨p, w, b, f, c, i, e, ws, rfl, _⟩ := h; rfl
  · obtain ⟨p, wa, b, f, c, i, e, ws, rfl, hm, hw, c1, c2, ic, hl, hb, q⟩ := h
    have tl := tn_len 68 c i c2
    wtm_at "go"
    wtm_at "w"
    intro L H1 k1 nL hL
    wtm_at "w"
    refine xs_forZM C (by wtm_at "m") T.b_zip ?_
    wtm_at "w"
    refine ⟨c, i, rfl, c1, c2, ic, fun r H2 k2 nr hr => ?_⟩
    wtm_at "w"
    have k12 := k1.tr0 k2
    have nrL : r ≠ L := (ne_of_none hL nr).symm
    refine ⟨r, wa, _, _, rfl, Z.SqL.of' hr, k12.tup hw, by rw [List.length_map, List.length_map, hl], fun t σ H' => ∃ (x : Int) (us : List V) (ns : List (List Int)) (v1 v2 v3 : Option V), σ = [some (.ref p), some (.int c), some (.int i), some (.int e), some (.ref wa), some (.ref L), some (.int x), v1, v2, v3] ∧ Kp [L] H2 H' ∧ H' L = some (.lst us) ∧
      TupsAt X.K H' us ns ∧ us.length = t ∧ nup b f (tn c i) e ws = ns ++ nup b f ((tn c i).drop t) x (ws.drop t), ⟨e, [], [], none, none, none, rfl, Kp.refl _ _, k2.at0 hL, .nil, rfl, by simp⟩, ?_, ?_, ?_⟩
    · rintro t σ' H' ⟨x, us, ns, v1, v2, v3, rfl, k, _⟩
      exact ⟨k.lst1 nrL (Z.SqL.of' hr), k.tup (k12.tup hw)⟩
    · rintro t y1 y2 T1 σ' H3 H4 hy1 hy2 ⟨x, us, ns, v1, v2, v3, rfl, k3, hL3, hT3, lu, eq⟩ k4 hT
      obtain ⟨s, hs, rfl⟩ := map_at_bl hy1
      obtain ⟨z, hz, rfl⟩ := map_at hy2
      have tt : t < (tn c i).length := (List.getElem?_eq_some_iff.mp hs).1
      rw [drop_at hs, drop_at hz, nup] at eq
      refine xg_tup C ⟨T1, _, rfl, hT, rfl, ?_⟩
      wtm_at "w"
      have kk := k3.tr0 k4
      have step : ∀ (nd : Addr) (H5 : Hp) (nx : St → Hp → Prop) (D : B3), Kp [] H4 H5 → SqT X.K H5 nd ((nodeOf s x z).map V.int) → (∀ σ' H', (∃ (x : Int) (us : List V) (ns : List (List Int)) (v1 v2 v3 : Option V), σ' = [some (.ref p), some (.int c), some (.int i), some (.int e), some (.ref wa), some (.ref L), some (.int x), v1, v2, v3] ∧ Kp [L] H2 H' ∧ H' L = some (.lst us) ∧
          TupsAt X.K H' us ns ∧ us.length = t + 1 ∧ nup b f (tn c i) e ws = ns ++ nup b f ((tn c i).drop (t + 1)) x (ws.drop (t + 1))) → nx σ' H') →
          XB X ((forBody ((defBody s__nodes_up).getD 2 (.Pass ⟨0, 0, 0, 0⟩))).drop 1) nx D [some (.ref p), some (.int c), some (.int i), some (.int e), some (.ref wa), some (.ref L), some (.int x), some (.bl s), some (.int z), some (.ref nd)] H5 := by
        intro nd H5 nx D k5 hnd hnx
        refine xb_cons ?_
        wtm_at "w"
        refine ⟨k5.at0 (k4.at0 hL3), szl (by omega), fun H6 k6 h6 => ?_⟩
        wtm_at "w"
        have k26 := (kk.tr0 k5).tr1 k6 (.inl (by simp))
        have hnd6 := k6.tup hnd
        refine ⟨p, nd, b, f, _, rfl, hm.kp (k12.tr1 k26 (.inr nL)), hnd6, hb, ?_⟩
        wtm_at "w"
        refine hnx _ _ ⟨_, us ++ [.ref nd], ns ++ [nodeOf s x z], _, _, _, rfl, k26, h6, ((hT3.kpA (((Kp.refl [L] H3).tr0 k4 |>.tr0 k5).tr1 k6 (.inl (by simp)))).app (.cons (dp_T hnd6) .nil)), by rw [List.length_append, lu]; rfl, ?_⟩
        rw [eq, List.append_assoc]; rfl
      cases s with
      | true =>
        wtm_at "w"
        intro nd H5 k5 hnd _
        exact ⟨_, by wtm_at "u", step nd H5 _ _ k5 hnd (fun σ' H' h => h)⟩
      | false =>
        wtm_at "w"
        intro nd H5 k5 hnd _
        exact ⟨_, by wtm_at "u", step nd H5 _ _ k5 hnd (fun σ' H' h => h)⟩
    · rintro σ' H3 ⟨x, us, ns, v1, v2, v3, rfl, k3, hL3, hT3, lu, eq⟩
      wtm_at "w"
      refine q L us H3 (k12.tr1 k3 (.inr nL)) nL hL3 ?_
      rw [List.length_map] at eq
      rw [eq, List.drop_eq_nil_of_le (Nat.le_refl _), nup_nil, List.append_nil]
      exact hT3
end
/-! climb -/
section
local macro_rules | `(tactic| wtm_at "d") => `(tactic| first | ((with_reducible show Z.XE _ (PySem.Expr.Call (PySem.Expr.Name "len" _) (_ :: _) [] _) _ _ _); refine Z.xe_callB (id := "len") (by assumption) (by wtm_at "m") T.b_len (by decide +kernel) ?_) | ((with_reducible show Z.XE _ (PySem.Expr.Call (PySem.Expr.Name "digest" _) (_ :: _) [] _) _ _ _); refine Z.xe_call (by assumption) (Law.ok_digest T) (by wtm_at "m") (by omega) ?_) | ((with_reducible show Z.XE _ (PySem.Expr.Call (PySem.Expr.Name "turns" _) (_ :: _) [] _) _ _ _); refine Z.xe_call (by assumption) (Law.ok_turns T) (by wtm_at "m") (by omega) ?_) | ((with_reducible show Z.XE _ (PySem.Expr.Call (PySem.Expr.Name "_nodes_up" _) (_ :: _) [] _) _ _ _); refine Z.xe_call (by assumption) (Law.ok__nodes_up T) (by wtm_at "m") (by omega) ?_) | fail)
theorem at_last {α : Type} {xs : List α} (h : 0 < xs.length) : atI xs (-1) = xs[xs.length - 1]? := by
  unfold atI ixN
  rw [if_neg (by decide), if_pos (by omega)]
  simp only [Option.bind]
  congr 1
  omega
def sp_climb (K : PySem.W.Frag) (C : Addr) : Sp := fun vs H Q _ => ∃ (p w : Addr) (b f : Int) (c i : Nat) (e : Int) (ws : List Int), vs = [.ref p, .int c, .int i, .int e, .ref w] ∧ Mx C H p b f ∧ SqT K H w (ws.map V.int) ∧ 1 ≤ c ∧ c ≤ 2 ^ 68 ∧ i < c ∧ 0 < b ∧
  ∀ H', Kp [] H H' → Q (if (tn c i).length = ws.length then .int (cl b f (tn c i) e ws) else .non) H'
theorem ok_climb (T : Txt P w K mg base) : DefOk P w K mg base "climb" ["mixing", "count", "index", "entry", "way"] 4 (sp_climb K T.C_Mixing) := by
  refine DefOk.by T.d_climb sc_climb oc_climb (fun vs H Q E h => ?_) (fun X e1 e2 e3 e4 e5 C H vs Q E h => ?_)
  · obtain ⟨p, w, b, f, c, i, e, ws, rfl, _⟩ := h; rfl
  · obtain ⟨p, wa, b, f, c, i, e, ws, rfl, hm, hw, c1, c2, ic, hb, q⟩ := h
    wtm_at "go"
    wtm_at "w"
    refine ⟨c, i, rfl, c1, c2, ic, fun r H2 k2 nr hr => ?_⟩
    wtm_at "w"
    refine ite_nd (fun h => ?_) (fun h => ?_)
    · wtm_at "w"
      rw [List.length_map, List.length_map] at h
      have := q H2 k2
      rw [if_neg (by omega)] at this
      exact this
    · rw [List.length_map, List.length_map] at h
      have hl : (tn c i).length = ws.length := by omega
      have q2 : ∀ H', Kp [] H H' → Q (.int (cl b f (tn c i) e ws)) H' := fun H' k => by
        have := q H' k
        rw [if_pos hl] at this
        exact this
      wtm_at "w"
      refine ⟨p, wa, b, f, c, i, e, ws, rfl, hm.kp k2, k2.tup hw, c1, c2, ic, hl, hb, fun l us H3 k3 nl hl3 hT => ?_⟩
      wtm_at "w"
      have ln := hT.len
      refine ite_b (fun h1 => ?_) (fun h1 => ?_)
      · have lu : 0 < us.length := by
          cases us with
          | nil => cases h1
          | cons y us => simp
        obtain ⟨ns, pa, hns, e9, hpa⟩ := hT.at (i := us.length - 1) (List.getElem?_eq_getElem (by omega))
        have hu : us[us.length - 1]? = some (.ref pa) := by rw [← e9]; exact List.getElem?_eq_getElem (by omega)
        have last : (nup b f (tn c i) e ws).getLast? = some ns := by rw [List.getLast?_eq_getElem?, ← ln]; exact hns
        wtm_at "w"
        refine vx_lst (Z.SqL.of' hl3) ((at_last lu).trans hu) ?_
        wtm_at "w"
        refine ⟨p, pa, b, f, ns, rfl, hm.kp (k2.tr0 k3), hpa, hb, ?_⟩
        wtm_at "w"
        rw [← cl_last b f _ _ _ _ last]
        exact q2 H3 (k2.tr0 k3)
      · have lu : us = [] := by
          cases us with
          | nil => rfl
          | cons y us => cases h1
        have l0 : (tn c i).length = 0 := by
          rw [nup_len b f _ _ _ hl, lu] at ln; exact ln.symm
        have e0 := List.length_eq_zero_iff.mp l0
        wtm_at "w"
        have := q2 H3 (k2.tr0 k3)
        rw [e0, cl_nil] at this
        exact this
end
/-! plain -/
mutual
def plainD : PyData → Prop
  | .none | .bool _ | .int _ => True
  | .str _ | .dict _ => False
  | .list ds | .tuple ds => ds.length ≤ 100000 ∧ plainAll ds
def plainAll : List PyData → Prop
  | [] => True
  | d :: ds => plainD d ∧ plainAll ds
end
theorem plain_at : ∀ {ds : List PyData} {i : Nat} {d : PyData}, plainAll ds → ds[i]? = some d → plainD d
  | [], _, _, _, e => by simp at e
  | x :: xs, 0, d, h, e => by
    have e' : x = d := by simpa using e
    rw [plainAll] at h; rw [← e']; exact h.1
  | x :: xs, i + 1, d, h, e => by rw [plainAll] at h; exact plain_at (ds := xs) h.2 (by simpa using e)
theorem plain_ints : ∀ ns : List Int, plainAll (ns.map PyData.int)
  | [] => by simp [plainAll]
  | n :: ns => by simp [plainAll, plainD, plain_ints ns]
/-! data -/
theorem canLay_bls : ∀ bs : List Bool, PyData.canLayAll0 (bs.map PyData.bool) = true
  | [] => by simp [PyData.canLayAll0]
  | n :: ns => by simp [PyData.canLayAll0, PyData.canLay0, canLay_bls ns]
theorem depth_bls : ∀ bs : List Bool, PyData.depthAll (bs.map PyData.bool) = 0
  | [] => by simp [PyData.depthAll]
  | n :: ns => by simp [PyData.depthAll, PyData.depth, depth_bls ns]
theorem plain_bls : ∀ bs : List Bool, plainAll (bs.map PyData.bool)
  | [] => by simp [plainAll]
  | n :: ns => by simp [plainAll, plainD, plain_bls ns]
theorem dpAll_bls {K : PySem.W.Frag} {H : Hp} : ∀ bs : List Bool, DpAll K H (bs.map V.bl) (bs.map PyData.bool)
  | [] => .nil
  | n :: ns => .cons (.bl n) (dpAll_bls ns)
theorem dp_B {K : PySem.W.Frag} {H : Hp} {p : Addr} {bs : List Bool} (h : SqL K H p (bs.map V.bl)) : Dp K H (.ref p) (.list (bs.map PyData.bool)) := .lst h (dpAll_bls bs)
theorem plB (bs : List Bool) (h : bs.length ≤ 100000) : plainD (.list (bs.map PyData.bool)) ∧ (PyData.list (bs.map PyData.bool)).depth ≤ 3 := by
  rw [plainD, PyData.depth, depth_bls, List.length_map]
  exact ⟨⟨h, plain_bls bs⟩, by decide⟩
theorem plT (ns : List Int) (h : ns.length ≤ 100000) : plainD (.tuple (ns.map PyData.int)) ∧ (PyData.tuple (ns.map PyData.int)).depth ≤ 3 := by
  rw [plainD, PyData.depth, depth_ints, List.length_map]
  exact ⟨⟨h, plain_ints ns⟩, by decide⟩
theorem plL (ns : List Int) (h : ns.length ≤ 100000) : plainD (.list (ns.map PyData.int)) ∧ (PyData.list (ns.map PyData.int)).depth ≤ 3 := by
  rw [plainD, PyData.depth, depth_ints, List.length_map]
  exact ⟨⟨h, plain_ints ns⟩, by decide⟩
theorem plI (n : Int) : plainD (.int n) ∧ (PyData.int n).depth ≤ 3 := by
  rw [plainD, PyData.depth]; exact ⟨trivial, by decide⟩
theorem sh2 (as bs : List Int) : SeqAt.shaped (.list [.list (as.map PyData.int), .list (bs.map PyData.int)]) = true := by
  simp [SeqAt.shaped, PyData.canLay0, PyData.canLayAll0, PyData.depth, PyData.depthAll, canLay_ints, depth_ints]
/-! _greatest_step -/
section
local macro_rules | `(tactic| wtm_at "d") => `(tactic| fail)
def sp_gs : Sp := fun vs H Q _ => ∃ n : Int, vs = [.int n] ∧ Q (.int (Builtin.bitAnd n (-n))) H
theorem ok__greatest_step (T : Txt P w K mg base) : DefOk P w K mg base "_greatest_step" ["number"] 1 sp_gs := by
  refine DefOk.by T.d__greatest_step sc__greatest_step oc__greatest_step (fun vs H Q E h => ?_) (fun X e1 e2 e3 e4 e5 C H vs Q E h => ?_)
  · obtain ⟨v, rfl, _⟩ := h; rfl
  · obtain ⟨v, rfl, q⟩ := h
    wtm_at "go"
    wtm_at "w"
    exact vo_and q
end
/-! _back_count -/
section
local macro_rules | `(tactic| wtm_at "d") => `(tactic| first | ((with_reducible show Z.XE _ (PySem.Expr.Call (PySem.Expr.Name "_greatest_step" _) (_ :: _) [] _) _ _ _); refine Z.xe_call (by assumption) (Law.ok__greatest_step T) (by wtm_at "m") (by omega) ?_) | fail)
def sp_bc : Sp := fun vs H Q _ => ∃ n : Int, vs = [.int n] ∧ Q (.int (cntB n)) H
theorem ok__back_count (T : Txt P w K mg base) : DefOk P w K mg base "_back_count" ["number"] 2 sp_bc := by
  refine DefOk.by T.d__back_count sc__back_count oc__back_count (fun vs H Q E h => ?_) (fun X e1 e2 e3 e4 e5 C H vs Q E h => ?_)
  · obtain ⟨v, rfl, _⟩ := h; rfl
  · obtain ⟨v, rfl, q⟩ := h
    wtm_at "go"
    wtm_at "w"
    refine xe_bits ?_
    wtm_at "w"
    refine ⟨v, rfl, _, rfl, ?_⟩
    exact q
end
/-! is_thing -/
section
local macro_rules | `(tactic| wtm_at "d") => `(tactic| first | ((with_reducible show Z.XE _ (PySem.Expr.Call (PySem.Expr.Name "len" _) (_ :: _) [] _) _ _ _); refine Z.xe_callB (id := "len") (by assumption) (by wtm_at "m") T.b_len (by decide +kernel) ?_) | ((with_reducible show Z.XE _ (PySem.Expr.Name "BEACON" _) _ _ _); refine Z.xe_glob (v := L2.V.int 1) (by assumption) (by wtm_at "m") T.c_BEACON.choose_spec ⟨_, rfl⟩ ?_) | ((with_reducible show Z.XE _ (PySem.Expr.Name "DOCUMENT" _) _ _ _); refine Z.xe_glob (v := L2.V.int 2) (by assumption) (by wtm_at "m") T.c_DOCUMENT.choose_spec ⟨_, rfl⟩ ?_) | ((with_reducible show Z.XE _ (PySem.Expr.Name "HEAD" _) _ _ _); refine Z.xe_glob (v := L2.V.int 4) (by assumption) (by wtm_at "m") T.c_HEAD.choose_spec ⟨_, rfl⟩ ?_) | ((with_reducible show Z.XE _ (PySem.Expr.Name "RENEWAL" _) _ _ _); refine Z.xe_glob (v := L2.V.int 5) (by assumption) (by wtm_at "m") T.c_RENEWAL.choose_spec ⟨_, rfl⟩ ?_) | ((with_reducible show Z.XE _ (PySem.Expr.Call (PySem.Expr.Name "_is_document" _) (_ :: _) [] _) _ _ _); refine Z.xe_call (by assumption) (Law.ok__is_document T) (by wtm_at "m") (by omega) ?_) | ((with_reducible show Z.XE _ (PySem.Expr.Call (PySem.Expr.Name "_is_head" _) (_ :: _) [] _) _ _ _); refine Z.xe_call (by assumption) (Law.ok__is_head T) (by wtm_at "m") (by omega) ?_) | ((with_reducible show Z.XE _ (PySem.Expr.Call (PySem.Expr.Name "_back_count" _) (_ :: _) [] _) _ _ _); refine Z.xe_call (by assumption) (Law.ok__back_count T) (by wtm_at "m") (by omega) ?_) | fail)
def sp_isdoc (K : PySem.W.Frag) : Sp := fun vs H Q _ => ∃ (p : Addr) (ns : List Int), vs = [.ref p] ∧ SqT K H p (ns.map V.int) ∧ Q (.bl (decide (2 ≤ ns.length ∧ 2 + ns.getD 1 0 ≤ ns.length))) H
theorem ok__is_document (T : Txt P w K mg base) : DefOk P w K mg base "_is_document" ["row"] 1 (sp_isdoc K) := by
  refine DefOk.by T.d__is_document sc__is_document oc__is_document (fun vs H Q E h => ?_) (fun X e1 e2 e3 e4 e5 C H vs Q E h => ?_)
  · obtain ⟨p, ns, rfl, _⟩ := h; rfl
  · obtain ⟨p, ns, rfl, hr, q⟩ := h
    wtm_at "go"
    wtm_at "w"
    rw [List.length_map]
    refine ite_d (fun h => ?_) (fun h => ?_)
    · wtm_at "w"
      refine vx_tup hr (at_getD 1 (by omega)) ?_
      wtm_at "w"
      have e : decide (ns.getD 1 0 ≤ ((ns.map V.int).length : Int) - 2) = decide (2 ≤ ns.length ∧ 2 + ns.getD 1 0 ≤ ns.length) := by
        rw [List.length_map]; apply decide_eq_decide.mpr; omega
      rw [e]; exact q
    · have e : decide ((2 : Int) ≤ (ns.length : Int)) = decide (2 ≤ ns.length ∧ 2 + ns.getD 1 0 ≤ ns.length) := by
        apply decide_eq_decide.mpr; omega
      rw [e]; exact q
def sp_ishead (K : PySem.W.Frag) : Sp := fun vs H Q _ => ∃ (p : Addr) (ns : List Int), vs = [.ref p] ∧ SqT K H p (ns.map V.int) ∧ Q (.bl (decide (6 ≤ ns.length ∧ 1 ≤ ns.getD 4 0 ∧ ns.length = 6 + cntB (ns.getD 2 0)))) H
theorem ok__is_head (T : Txt P w K mg base) : DefOk P w K mg base "_is_head" ["row"] 3 (sp_ishead K) := by
  refine DefOk.by T.d__is_head sc__is_head oc__is_head (fun vs H Q E h => ?_) (fun X e1 e2 e3 e4 e5 C H vs Q E h => ?_)
  · obtain ⟨p, ns, rfl, _⟩ := h; rfl
  · obtain ⟨p, ns, rfl, hr, q⟩ := h
    wtm_at "go"
    wtm_at "w"
    rw [List.length_map]
    refine ite_d (fun h => ?_) (fun h => ?_)
    · wtm_at "w"
      have e : false = decide (6 ≤ ns.length ∧ 1 ≤ ns.getD 4 0 ∧ ns.length = 6 + cntB (ns.getD 2 0)) := by
        symm; apply decide_eq_false; omega
      rw [e]; exact q
    · wtm_at "w"
      refine vx_tup hr (at_getD 2 (by omega)) ?_
      wtm_at "w"
      refine vx_tup hr (at_getD 4 (by omega)) ?_
      wtm_at "w"
      refine ite_d (fun h' => ?_) (fun h' => ?_)
      · wtm_at "w"
        refine ⟨_, rfl, ?_⟩
        wtm_at "w"
        have e : decide ((((ns.map V.int).length : Int) - 6) = (cntB (ns.getD 2 0) : Int)) = decide (6 ≤ ns.length ∧ 1 ≤ ns.getD 4 0 ∧ ns.length = 6 + cntB (ns.getD 2 0)) := by
          rw [List.length_map]; apply decide_eq_decide.mpr; omega
        rw [e]; exact q
      · have e : decide (1 ≤ ns.getD 4 0) = decide (6 ≤ ns.length ∧ 1 ≤ ns.getD 4 0 ∧ ns.length = 6 + cntB (ns.getD 2 0)) := by
          apply decide_eq_decide.mpr; omega
        rw [e]; exact q
def sp_isthing (K : PySem.W.Frag) : Sp := fun vs H Q _ => ∃ (p : Addr) (ns : List Int), vs = [.ref p] ∧ SqT K H p (ns.map V.int) ∧ Q (.bl (isThing ns)) H
theorem ok_is_thing (T : Txt P w K mg base) : DefOk P w K mg base "is_thing" ["row"] 4 (sp_isthing K) := by
  refine DefOk.by T.d_is_thing sc_is_thing oc_is_thing (fun vs H Q E h => ?_) (fun X e1 e2 e3 e4 e5 C H vs Q E h => ?_)
  · obtain ⟨p, ns, rfl, _⟩ := h; rfl
  · obtain ⟨p, ns, rfl, hr, q⟩ := h
    have fin : ∀ b, b = isThing ns → Q (.bl b) H := fun b e => by rw [e]; exact q
    wtm_at "go"
    wtm_at "w"
    refine ite_b (fun h => ?_) (fun h => ?_)
    · wtm_at "w"
      refine fin _ ?_
      have : ns = [] := by simpa using h
      rw [this]; rfl
    · have hl : ns.length ≠ 0 := by
        intro e
        have : ns = [] := List.length_eq_zero_iff.mp e
        rw [this] at h; simp at h
      wtm_at "w"
      refine vx_tup hr (at_getD 0 (by omega)) ?_
      wtm_at "w"
      refine ite_d (fun h1 => ?_) (fun h1 => ?_)
      · wtm_at "w"
        refine fin _ ?_
        unfold isThing
        rw [if_neg hl, if_pos h1, List.length_map]
        apply decide_eq_decide.mpr; omega
      · wtm_at "w"
        refine ite_d (fun h2 => ?_) (fun h2 => ?_)
        · wtm_at "w"
          refine ⟨p, ns, rfl, hr, ?_⟩
          refine fin _ ?_
          unfold isThing
          rw [if_neg hl, if_neg h1, if_pos h2]
        · wtm_at "w"
          refine ite_d (fun h3 => ?_) (fun h3 => ?_)
          · wtm_at "w"
            refine ⟨p, ns, rfl, hr, ?_⟩
            refine fin _ ?_
            unfold isThing
            rw [if_neg hl, if_neg h1, if_neg h2, if_pos h3]
          · wtm_at "w"
            have e : isThing ns = decide (ns.getD 0 0 = 5 ∧ ns.length = 2) := by
              unfold isThing
              rw [if_neg hl, if_neg h1, if_neg h2, if_neg h3]
            refine ite_d (fun h4 => ?_) (fun h4 => ?_)
            · wtm_at "w"
              refine fin _ ?_
              rw [e, List.length_map]
              apply decide_eq_decide.mpr; omega
            · refine fin _ ?_
              rw [e]
              apply decide_eq_decide.mpr; omega
end
/-! kind_of -/
section
local macro_rules | `(tactic| wtm_at "d") => `(tactic| fail)
def sp_kind (K : PySem.W.Frag) : Sp := fun vs H Q _ => ∃ (p : Addr) (ns : List Int), vs = [.ref p] ∧ SqT K H p (ns.map V.int) ∧ 0 < ns.length ∧ Q (.int (ns.getD 0 0)) H
theorem ok_kind_of (T : Txt P w K mg base) : DefOk P w K mg base "kind_of" ["row"] 1 (sp_kind K) := by
  refine DefOk.by T.d_kind_of sc_kind_of oc_kind_of (fun vs H Q E h => ?_) (fun X e1 e2 e3 e4 e5 C H vs Q E h => ?_)
  · obtain ⟨p, ns, rfl, _⟩ := h; rfl
  · obtain ⟨p, ns, rfl, hr, hl, q⟩ := h
    wtm_at "go"
    wtm_at "w"
    exact vx_tup hr (at_getD 0 (by omega)) q
end
/-! isthP -/
/-! things by their kind -/
theorem isThing_pos {rs : List Int} (h : isThing rs = true) : 0 < rs.length := by
  cases rs with
  | nil => simp [isThing] at h
  | cons x r => simp
theorem isThing_hd {rs : List Int} (h : isThing rs = true) (e : rs.getD 0 0 = 4) : 6 ≤ rs.length ∧ 1 ≤ rs.getD 4 0 ∧ rs.length = 6 + cntB (rs.getD 2 0) := by
  have p := isThing_pos h
  unfold isThing at h
  rw [if_neg (by omega), if_neg (by omega), if_neg (by omega), if_pos e] at h
  exact of_decide_eq_true h
theorem isThing_doc {rs : List Int} (h : isThing rs = true) (e : rs.getD 0 0 = 2) : 2 ≤ rs.length ∧ 2 + rs.getD 1 0 ≤ rs.length := by
  have p := isThing_pos h
  unfold isThing at h
  rw [if_neg (by omega), if_neg (by omega), if_pos e] at h
  exact of_decide_eq_true h
theorem cut46g {rs : List Int} (h : 6 ≤ rs.length) : cutV (rs.map V.int) (some 4) (some 6) = [.int (rs.getD 4 0), .int (rs.getD 5 0)] := by
  match rs, h with
  | a :: b :: c :: d :: e :: g :: r, _ =>
    unfold cutV
    have l : ((a :: b :: c :: d :: e :: g :: r).map V.int).length = 6 + r.length := by simp; omega
    rw [l]
    rw [show HT.sIx (6 + r.length) 0 (some 4) = 4 by rw [show (4 : Int) = ((4 : Nat) : Int) from rfl, HT.sIx_nat]; omega, show HT.sIx (6 + r.length) (6 + r.length) (some 6) = 6 by rw [show (6 : Int) = ((6 : Nat) : Int) from rfl, HT.sIx_nat]; omega]
    rfl
/-! is_thing_of -/
section
local macro_rules | `(tactic| wtm_at "d") => `(tactic| first | ((with_reducible show Z.XE _ (PySem.Expr.Call (PySem.Expr.Name "is_thing" _) (_ :: _) [] _) _ _ _); refine Z.xe_call (by assumption) (Law.ok_is_thing T) (by wtm_at "m") (by omega) ?_) | ((with_reducible show Z.XE _ (PySem.Expr.Call (PySem.Expr.Name "kind_of" _) (_ :: _) [] _) _ _ _); refine Z.xe_call (by assumption) (Law.ok_kind_of T) (by wtm_at "m") (by omega) ?_) | fail)
def sp_isthof (K : PySem.W.Frag) : Sp := fun vs H Q _ => ∃ (p : Addr) (ns : List Int) (k : Int), vs = [.ref p, .int k] ∧ SqT K H p (ns.map V.int) ∧ Q (.bl (isThing ns && decide (ns.getD 0 0 = k))) H
theorem ok_is_thing_of (T : Txt P w K mg base) : DefOk P w K mg base "is_thing_of" ["row", "kind"] 5 (sp_isthof K) := by
  refine DefOk.by T.d_is_thing_of sc_is_thing_of oc_is_thing_of (fun vs H Q E h => ?_) (fun X e1 e2 e3 e4 e5 C H vs Q E h => ?_)
  · obtain ⟨p, ns, k, rfl, _⟩ := h; rfl
  · obtain ⟨p, ns, k, rfl, hr, q⟩ := h
    wtm_at "go"
    wtm_at "w"
    refine ⟨p, ns, rfl, hr, ?_⟩
    cases th : isThing ns with
    | false =>
      rw [th] at q
      wtm_at "w"
      exact q
    | true =>
      rw [th] at q
      wtm_at "w"
      refine ⟨p, ns, rfl, hr, isThing_pos th, ?_⟩
      wtm_at "w"
      simpa using q
end
/-! _law_is_integer -/
section
local macro_rules | `(tactic| wtm_at "d") => `(tactic| first | ((with_reducible show Z.XE _ (PySem.Expr.Call (PySem.Expr.Name "bool" _) (_ :: _) [] _) _ _ _); refine Z.xe_callTy (id := "bool") (by assumption) (by wtm_at "m") T.b_bool (by decide +kernel) ?_) | ((with_reducible show Z.XE _ (PySem.Expr.Name "bool" _) _ _ _); refine Z.xe_ty (id := "bool") (by assumption) (by wtm_at "m") T.b_bool (by decide +kernel) ?_) | ((with_reducible show Z.XE _ (PySem.Expr.Call (PySem.Expr.Name "int" _) (_ :: _) [] _) _ _ _); refine Z.xe_callTy (id := "int") (by assumption) (by wtm_at "m") T.b_int (by decide +kernel) ?_) | ((with_reducible show Z.XE _ (PySem.Expr.Name "int" _) _ _ _); refine Z.xe_ty (id := "int") (by assumption) (by wtm_at "m") T.b_int (by decide +kernel) ?_) | ((with_reducible show Z.XE _ (PySem.Expr.Call (PySem.Expr.Name "isinstance" _) (_ :: _) [] _) _ _ _); refine Z.xe_callB (id := "isinstance") (by assumption) (by wtm_at "m") T.b_isinstance (by decide +kernel) ?_) | fail)
def sp_isint : Sp := fun vs H Q _ => ∃ v : Int, vs = [.int v] ∧ Q (.bl true) H
theorem ok__law_is_integer (T : Txt P w K mg base) : DefOk P w K mg base "_law_is_integer" ["told"] 1 sp_isint := by
  refine DefOk.by T.d__law_is_integer sc__law_is_integer oc__law_is_integer (fun vs H Q E h => ?_) (fun X e1 e2 e3 e4 e5 C H vs Q E h => ?_)
  · obtain ⟨v, rfl, _⟩ := h; rfl
  · obtain ⟨v, rfl, q⟩ := h
    wtm_at "go"
    wtm_at "w"
    refine vc_isi (t := "int") (u := true) (.base (.int v)) (by decide +kernel) ?_
    wtm_at "w"
    refine vc_isi (t := "int") (u := false) (.base (.int v)) (by decide +kernel) ?_
    wtm_at "w"
    exact q
end
/-! plainS -/
mutual
def plainS : PyData → Prop
  | .none | .bool _ | .int _ | .str _ => True
  | .dict _ => False
  | .list ds | .tuple ds => ds.length ≤ 100000 ∧ plainSs ds
def plainSs : List PyData → Prop
  | [] => True
  | d :: ds => plainS d ∧ plainSs ds
end
theorem plainS_at : ∀ {ds : List PyData} {i : Nat} {d : PyData}, plainSs ds → ds[i]? = some d → plainS d
  | [], _, _, _, e => by simp at e
  | x :: xs, 0, d, h, e => by
    have e' : x = d := by simpa using e
    rw [plainSs] at h; rw [← e']; exact h.1
  | x :: xs, i + 1, d, h, e => by rw [plainSs] at h; exact plainS_at (ds := xs) h.2 (by simpa using e)
theorem plainSs_ints : ∀ ns : List Int, plainSs (ns.map PyData.int)
  | [] => by simp [plainSs]
  | n :: ns => by simp [plainSs, plainS, plainSs_ints ns]
theorem plainS_L {ns : List Int} (h : ns.length ≤ 100000) : plainS (.list (ns.map PyData.int)) ∧ (PyData.list (ns.map PyData.int)).depth ≤ 3 := by
  rw [plainS, PyData.depth, depth_ints, List.length_map]
  exact ⟨⟨h, plainSs_ints _⟩, by omega⟩
theorem plainS_T {ns : List Int} (h : ns.length ≤ 100000) : plainS (.tuple (ns.map PyData.int)) ∧ (PyData.tuple (ns.map PyData.int)).depth ≤ 3 := by
  rw [plainS, PyData.depth, depth_ints, List.length_map]
  exact ⟨⟨h, plainSs_ints _⟩, by omega⟩
/-! _law_same_s4 -/
section
local macro_rules | `(tactic| wtm_at "d") => `(tactic| first | ((with_reducible show Z.XE _ (PySem.Expr.Call (PySem.Expr.Name "bool" _) (_ :: _) [] _) _ _ _); refine Z.xe_callTy (id := "bool") (by assumption) (by wtm_at "m") T.b_bool (by decide +kernel) ?_) | ((with_reducible show Z.XE _ (PySem.Expr.Name "bool" _) _ _ _); refine Z.xe_ty (id := "bool") (by assumption) (by wtm_at "m") T.b_bool (by decide +kernel) ?_) | ((with_reducible show Z.XE _ (PySem.Expr.Call (PySem.Expr.Name "int" _) (_ :: _) [] _) _ _ _); refine Z.xe_callTy (id := "int") (by assumption) (by wtm_at "m") T.b_int (by decide +kernel) ?_) | ((with_reducible show Z.XE _ (PySem.Expr.Name "int" _) _ _ _); refine Z.xe_ty (id := "int") (by assumption) (by wtm_at "m") T.b_int (by decide +kernel) ?_) | ((with_reducible show Z.XE _ (PySem.Expr.Call (PySem.Expr.Name "isinstance" _) (_ :: _) [] _) _ _ _); refine Z.xe_callB (id := "isinstance") (by assumption) (by wtm_at "m") T.b_isinstance (by decide +kernel) ?_) | ((with_reducible show Z.XE _ (PySem.Expr.Call (PySem.Expr.Name "len" _) (_ :: _) [] _) _ _ _); refine Z.xe_callB (id := "len") (by assumption) (by wtm_at "m") T.b_len (by decide +kernel) ?_) | ((with_reducible show Z.XE _ (PySem.Expr.Call (PySem.Expr.Name "list" _) (_ :: _) [] _) _ _ _); refine Z.xe_callTy (id := "list") (by assumption) (by wtm_at "m") T.b_list (by decide +kernel) ?_) | ((with_reducible show Z.XE _ (PySem.Expr.Name "list" _) _ _ _); refine Z.xe_ty (id := "list") (by assumption) (by wtm_at "m") T.b_list (by decide +kernel) ?_) | ((with_reducible show Z.XE _ (PySem.Expr.Call (PySem.Expr.Name "str" _) (_ :: _) [] _) _ _ _); refine Z.xe_callTy (id := "str") (by assumption) (by wtm_at "m") T.b_str (by decide +kernel) ?_) | ((with_reducible show Z.XE _ (PySem.Expr.Name "str" _) _ _ _); refine Z.xe_ty (id := "str") (by assumption) (by wtm_at "m") T.b_str (by decide +kernel) ?_) | ((with_reducible show Z.XE _ (PySem.Expr.Call (PySem.Expr.Name "tuple" _) (_ :: _) [] _) _ _ _); refine Z.xe_callTy (id := "tuple") (by assumption) (by wtm_at "m") T.b_tuple (by decide +kernel) ?_) | ((with_reducible show Z.XE _ (PySem.Expr.Name "tuple" _) _ _ _); refine Z.xe_ty (id := "tuple") (by assumption) (by wtm_at "m") T.b_tuple (by decide +kernel) ?_) | ((with_reducible show Z.XE _ (PySem.Expr.Call (PySem.Expr.Name "_law_is_integer" _) (_ :: _) [] _) _ _ _); refine Z.xe_call (by assumption) (Law.ok__law_is_integer T) (by wtm_at "m") (by omega) ?_) | ((with_reducible show Z.XE _ (PySem.Expr.Call (PySem.Expr.Name "_law_same" _) (_ :: _) [] _) _ _ _); refine Z.xe_call (by assumption) (Law.ok__law_same T) (by wtm_at "m") (by omega) ?_) | fail)
def sp_same (n : Nat) (K : PySem.W.Frag) : Sp := fun vs H Q _ => ∃ (t u : V) (d : PyData), vs = [t, u] ∧ Dp K H t d ∧ Dp K H u d ∧ d.depth ≤ n ∧ plainS d ∧ Q (.bl true) H
theorem same_by (T : Txt P w K mg base) (n : Nat) (ih : 0 < n → DefOk P w K mg base "_law_same" ["told", "due"] (n + 1) (sp_same (n - 1) K)) : DefOk P w K mg base "_law_same" ["told", "due"] (n + 1 + 1) (sp_same n K) := by
  refine DefOk.by T.d__law_same sc__law_same oc__law_same (fun vs H Q E h => ?_) (fun X e1 e2 e3 e4 e5 C H vs Q E h => ?_)
  · obtain ⟨t, u, d, rfl, _⟩ := h; rfl
  · obtain ⟨t, u, d, rfl, ht, hu, hd, hp, q⟩ := h
    subst e1; subst e2; subst e3; subst e4; subst e5
    have tail : ∀ (p p' : Addr) (xs ys : List V) (ds : List PyData), Sq X.K H p xs → Sq X.K H p' ys → DpAll X.K H xs ds → DpAll X.K H ys ds → 0 < n → PyData.depthAll ds ≤ n - 1 → plainSs ds → ds.length ≤ 100000 →
        XB X ((defBody s__law_same).drop 6) (fun _ H' => Q .non H') ⟨Q, fun _ _ => False, fun _ _ => False⟩ [some (.ref p), some (.ref p'), none] H := by
      intro p p' xs ys ds hx hy ax ay hn hdd hpp hll
      have lx := dpAll_len ax
      have ly := dpAll_len ay
      refine xb_cons ?_
      wtm_at "w"
      refine vc_lenS hx ?_
      wtm_at "w"
      refine vc_lenS hy ?_
      wtm_at "w"
      refine ite_nd (fun h => absurd (by omega) h) (fun _ => ?_)
      wtm_at "w"
      refine xs_forR1 (by assumption) (by wtm_at "m") T.b_range ?_
      wtm_at "w"
      refine vc_lenS hy ?_
      wtm_at "w"
      refine ⟨_, rfl, by omega, by omega, fun i σ H' => ∃ vk, σ = [some (.ref p), some (.ref p'), vk] ∧ H' = H, ⟨_, rfl, rfl⟩, ?_, ?_⟩
      · rintro i σ' H' hi ⟨vk, rfl, rfl⟩
        have hi' : i < ds.length := by omega
        obtain ⟨v, h1, h2⟩ := dpAll_at ax (List.getElem?_eq_getElem hi')
        obtain ⟨v', h3, h4⟩ := dpAll_at ay (List.getElem?_eq_getElem hi')
        have hdi := depth_at (List.getElem?_eq_getElem hi')
        wtm_at "w"
        refine xe_call (by assumption) (ih hn) (by wtm_at "m") (by omega) ?_
        wtm_at "w"
        refine vx_S hx (atI_nat h1) ?_
        wtm_at "w"
        refine vx_S hy (atI_nat h3) ?_
        wtm_at "w"
        refine ⟨v, v', _, rfl, h2, h4, by omega, plainS_at hpp (List.getElem?_eq_getElem hi'), ?_⟩
        wtm_at "w"
        exact ⟨_, rfl, rfl⟩
      · rintro σ' H' ⟨vk, rfl, rfl⟩
        wtm_at "w"
        exact q
    simp only [st0]
    refine xb_cons ?_
    cases hu with
    | non =>
      cases ht
      wtm_at "w"
      refine vc_isi (t := "NoneType") (u := false) (.base .non) (by decide +kernel) ?_
      wtm_at "w"
      refine vc_isi (t := "NoneType") (u := false) (.base .non) (by decide +kernel) ?_
      wtm_at "w"
      refine vc_isi (t := "NoneType") (u := false) (.base .non) (by decide +kernel) ?_
      wtm_at "w"
      refine ite_d (fun _ => ?_) (fun h => absurd rfl h)
      wtm_at "w"
      simpa using q
    | bl b =>
      cases ht
      wtm_at "w"
      refine vc_isi (t := "bool") (u := true) (.base (.bl _)) (by decide +kernel) ?_
      wtm_at "w"
      refine vc_isi (t := "bool") (u := true) (.base (.bl _)) (by decide +kernel) ?_
      wtm_at "w"
      simpa using q
    | int i =>
      cases ht
      wtm_at "w"
      refine vc_isi (t := "int") (u := false) (.base (.int _)) (by decide +kernel) ?_
      wtm_at "w"
      refine vc_isi (t := "int") (u := true) (.base (.int _)) (by decide +kernel) ?_
      wtm_at "w"
      refine ⟨i, rfl, ?_⟩
      wtm_at "w"
      simpa using q
    | str x =>
      cases ht
      wtm_at "w"
      refine vc_isi (t := "str") (u := false) (.base (.str _)) (by decide +kernel) ?_
      wtm_at "w"
      refine vc_isi (t := "str") (u := false) (.base (.str _)) (by decide +kernel) ?_
      wtm_at "w"
      refine vc_isi (t := "str") (u := true) (.base (.str _)) (by decide +kernel) ?_
      wtm_at "w"
      refine vc_isi (t := "str") (u := true) (.base (.str _)) (by decide +kernel) ?_
      wtm_at "w"
      refine ⟨_, op_eq, rfl, ?_⟩
      simpa using q
    | lst hy ay =>
      cases ht with
      | lst hx ax =>
        rw [plainS] at hp
        rw [PyData.depth] at hd
        wtm_at "w"
        refine vc_isi (t := "list") (u := false) (ty_L hy) (by decide +kernel) ?_
        wtm_at "w"
        refine vc_isi (t := "list") (u := false) (ty_L hy) (by decide +kernel) ?_
        wtm_at "w"
        refine vc_isi (t := "list") (u := false) (ty_L hy) (by decide +kernel) ?_
        wtm_at "w"
        refine ite_d (fun h => nomatch h) (fun _ => ?_)
        wtm_at "w"
        refine vc_isi (t := "list") (u := false) (ty_L hy) (by decide +kernel) ?_
        wtm_at "w"
        refine vc_isi (t := "list") (u := true) (ty_L hy) (by decide +kernel) ?_
        wtm_at "w"
        refine vc_isi (t := "list") (u := true) (ty_L hx) (by decide +kernel) ?_
        refine vt_bl (ite_NT (xb_nil ?_))
        exact tail _ _ _ _ _ (.inl hx) (.inl hy) ax ay (by omega) (by omega) hp.2 hp.1
    | tup hy ay =>
      cases ht with
      | tup hx ax =>
        rw [plainS] at hp
        rw [PyData.depth] at hd
        wtm_at "w"
        refine vc_isi (t := "tuple") (u := false) (ty_T hy) (by decide +kernel) ?_
        wtm_at "w"
        refine vc_isi (t := "tuple") (u := false) (ty_T hy) (by decide +kernel) ?_
        wtm_at "w"
        refine vc_isi (t := "tuple") (u := false) (ty_T hy) (by decide +kernel) ?_
        wtm_at "w"
        refine ite_d (fun h => nomatch h) (fun _ => ?_)
        wtm_at "w"
        refine vc_isi (t := "tuple") (u := true) (ty_T hy) (by decide +kernel) ?_
        wtm_at "w"
        refine vc_isi (t := "tuple") (u := true) (ty_T hx) (by decide +kernel) ?_
        wtm_at "w"
        refine vc_isi (t := "tuple") (u := false) (ty_T hy) (by decide +kernel) ?_
        refine vt_bl (L2.iteF (L2.iteF (xb_nil ?_)))
        exact tail _ _ _ _ _ (.inr hx) (.inr hy) ax ay (by omega) (by omega) hp.2 hp.1
theorem same_ok (T : Txt P w K mg base) : ∀ n, DefOk P w K mg base "_law_same" ["told", "due"] (n + 1 + 1) (sp_same n K)
  | 0 => same_by T 0 fun h => absurd h (by omega)
  | n + 1 => same_by T (n + 1) fun _ => same_ok T n
theorem ok__law_same (T : Txt P w K mg base) : DefOk P w K mg base "_law_same" ["told", "due"] 6 (sp_same 4 K) := same_ok T 4
end
/-! _law_digest_l -/
section
local macro_rules | `(tactic| wtm_at "d") => `(tactic| first | ((with_reducible show Z.XE _ (PySem.Expr.Call (PySem.Expr.Name "int" _) (_ :: _) [] _) _ _ _); refine Z.xe_callTy (id := "int") (by assumption) (by wtm_at "m") T.b_int (by decide +kernel) ?_) | ((with_reducible show Z.XE _ (PySem.Expr.Name "int" _) _ _ _); refine Z.xe_ty (id := "int") (by assumption) (by wtm_at "m") T.b_int (by decide +kernel) ?_) | ((with_reducible show Z.XE _ (PySem.Expr.Call (PySem.Expr.Name "len" _) (_ :: _) [] _) _ _ _); refine Z.xe_callB (id := "len") (by assumption) (by wtm_at "m") T.b_len (by decide +kernel) ?_) | fail)
def sp_ldigest (K : PySem.W.Frag) : Sp := fun vs H Q _ => ∃ (p r : Addr) (b f : Int) (ns : List Int), vs = [.ref p, .ref r] ∧ SqL K H p [.int b, .int f] ∧ SqT K H r (ns.map V.int) ∧ 0 < b ∧ Q (.int (dig b f ns)) H
theorem ok__law_digest (T : Txt P w K mg base) : DefOk P w K mg base "_law_digest" ["mix", "row"] 1 (sp_ldigest K) := by
  refine DefOk.by T.d__law_digest sc__law_digest oc__law_digest (fun vs H Q E h => ?_) (fun X e1 e2 e3 e4 e5 C H vs Q E h => ?_)
  · obtain ⟨p, r, b, f, ns, rfl, _⟩ := h; rfl
  · obtain ⟨p, r, b, f, ns, rfl, hm, hr, hb, q⟩ := h
    wtm_at "go"
    wtm_at "w"
    have s0 := mixS_rng f 1 ((ns.map V.int).length : Int)
    have es : (f + ((ns.map V.int).length : Int) + 1) % 2305843009213693951 = mixS f 1 ((ns.map V.int).length : Int) := by unfold mixS; rw [Int.one_mul]; rfl
    refine xs_forT (by assumption) ?_
    wtm_at "w"
    refine ⟨r, _, rfl, hr, fun i σ H' => ∃ vn, σ = [some (.ref p), some (.ref r), some (.int 2305843009213693951), some (.int (mixF f (ns.take i) (mixS f 1 ((ns.map V.int).length : Int)))), vn] ∧ H' = H, ⟨none, by rw [es]; rfl, rfl⟩, ?_, ?_, ?_⟩
    · rintro i σ' H' hi ⟨vn, rfl, rfl⟩
      exact hr
    · rintro i y σ' H' hy ⟨vn, rfl, rfl⟩
      obtain ⟨n, hn, rfl⟩ := map_at hy
      have s1 := mixF_rng (f := f) (ns.take i) _ s0.1 s0.2
      wtm_at "w"
      refine vo_mul (cmulL (mulP s1.1 s1.2)) ?_
      wtm_at "w"
      exact ⟨_, by rw [mixF_take hn]; rfl, rfl⟩
    · rintro σ' H' ⟨vn, rfl, rfl⟩
      have e : (ns.take (ns.map V.int).length) = ns := by rw [List.length_map]; exact List.take_length
      rw [e]
      have s1 := mixF_rng (f := f) ns _ s0.1 s0.2
      wtm_at "w"
      refine vo_mul (cmulR ⟨by decide, by decide⟩) ?_
      wtm_at "w"
      refine vo_mod hb ?_
      have e2 : mixF f ns (mixS f 1 ((ns.map V.int).length : Int)) = mixF f (ns.length :: ns) 1 := by rw [List.length_map]; rfl
      rw [e2]
      exact q
end
/-! _law_mix -/
section
local macro_rules | `(tactic| wtm_at "d") => `(tactic| first | ((with_reducible show Z.XE _ (PySem.Expr.Call (PySem.Expr.Name "_law_draw" _) (_ :: _) [] _) _ _ _); refine Z.xe_call (by assumption) (Law.ok__law_draw T) (by wtm_at "m") (by omega) ?_) | fail)
def sp_lmix : Sp := fun vs H Q _ => ∃ (b r : Addr), vs = [.ref b] ∧ Box H b r ∧ ∀ (p : Addr) (n f : Int) H', Kp [b] H H' → Box H' b r → H p = none → H' p = some (.lst ([n, f].map V.int)) → 2 ≤ n → 2 ≤ f → Q (.ref p) H'
theorem ok__law_mix (T : Txt P w K mg base) : DefOk P w K mg base "_law_mix" ["box"] 3 sp_lmix := by
  refine DefOk.by T.d__law_mix sc__law_mix oc__law_mix (fun vs H Q E h => ?_) (fun X e1 e2 e3 e4 e5 C H vs Q E h => ?_)
  · obtain ⟨b, r, rfl, _⟩ := h; rfl
  · obtain ⟨b, r, rfl, bx, q⟩ := h
    have rest : ∀ (n : Int) (H1 : Hp), 2 ≤ n → Kp [b] H H1 → Box H1 b r → XB X ((defBody s__law_mix).drop 2) (fun _ H' => Q .non H') ⟨Q, fun _ _ => False, fun _ _ => False⟩ [some (.ref b), some (.int n)] H1 := by
      subst e1; subst e2; subst e3; subst e4; subst e5
      intro n H1 n2 k1 b1
      refine xb_cons ?_
      wtm_at "w"
      refine ⟨b, r, 840, rfl, b1, by decide, fun d1 H2 d10 d11 k2 b2 => ?_⟩
      wtm_at "w"
      refine vo_mul (cmulR ⟨by decide, by decide⟩) ?_
      wtm_at "w"
      refine ⟨b, r, 840, rfl, b2, by decide, fun d2 H3 d20 d21 k3 b3 => ?_⟩
      wtm_at "w"
      intro p H4 k4 n4 h4
      have k13 := k2.tr1 k3 (.inl (by simp))
      have k03 := k1.tr k13 (fun l m => .inl m)
      exact q p n _ H4 (k03.tr0 k4) (b3.kp k4) (k03.n _ n4) h4 n2 (by omega)
    wtm_at "go"
    wtm_at "w"
    refine ⟨b, r, 40, rfl, bx, by decide, fun d H1 d0 d1 k1 b1 => ?_⟩
    wtm_at "w"
    refine ⟨b, r, 4, rfl, b1, by decide, fun u H2 u0 u1 k2 b2 => ?_⟩
    have k12 := k1.tr1 k2 (.inl (by simp))
    wtm_at "w"
    refine ite_d (fun _ => ?_) (fun _ => ?_)
    · wtm_at "w"
      intro l H3 k3 n3 h3
      have k13 := k12.tr0 k3
      have b3 := b2.kp k3
      wtm_at "w"
      refine ⟨b, r, 4, rfl, b3, by decide, fun t H4 t0 t1 k4 b4 => ?_⟩
      have h3' : H3 l = some (.lst (([2, 3, 1000, 2305843009213693952] : List Int).map V.int)) := h3
      have h4 := k4.at1 (b3.neInts h3') h3'
      have k14 := k13.tr1 k4 (.inl (by simp))
      obtain ⟨t', rfl⟩ := Int.eq_ofNat_of_zero_le t0
      have ht : t' < 4 := by omega
      have gx : ([2, 3, 1000, 2305843009213693952] : List Int)[t']? = some (([2, 3, 1000, 2305843009213693952] : List Int)[t']) := List.getElem?_eq_getElem (by simpa using ht)
      have g2 : 2 ≤ ([2, 3, 1000, 2305843009213693952] : List Int)[t'] := by
        have : ∀ x ∈ ([2, 3, 1000, 2305843009213693952] : List Int), 2 ≤ x := by decide
        exact this _ (List.getElem_mem _)
      generalize ([2, 3, 1000, 2305843009213693952] : List Int)[t'] = n at gx g2
      clear k3 k1 k2 k12 k13
      refine vx_lst (Z.SqL.of' h4) (at_map_nat gx) ?_
      exact ⟨_, by wtm_at "u", xb_nil (rest n H4 g2 k14 b4)⟩
    · exact xb_nil (rest _ H2 (by omega) k12 b2)
end
/-! _law_pick -/
section
local macro_rules | `(tactic| wtm_at "d") => `(tactic| first | ((with_reducible show Z.XE _ (PySem.Expr.Call (PySem.Expr.Name "len" _) (_ :: _) [] _) _ _ _); refine Z.xe_callB (id := "len") (by assumption) (by wtm_at "m") T.b_len (by decide +kernel) ?_) | ((with_reducible show Z.XE _ (PySem.Expr.Call (PySem.Expr.Name "_law_draw" _) (_ :: _) [] _) _ _ _); refine Z.xe_call (by assumption) (Law.ok__law_draw T) (by wtm_at "m") (by omega) ?_) | fail)
def sp_pick (K : PySem.W.Frag) : Sp := fun vs H Q _ => ∃ (b r p : Addr) (ns : List Int), vs = [.ref b, .ref p] ∧ Box H b r ∧ H p = some (.lst (ns.map V.int)) ∧ 0 < ns.length ∧ ns.length ≤ 100000 ∧ (∀ x ∈ ns, 0 ≤ x) ∧ ∀ (x : Int) H', Kp [b] H H' → Box H' b r → 0 ≤ x → Q (.int x) H'
theorem ok__law_pick (T : Txt P w K mg base) : DefOk P w K mg base "_law_pick" ["box", "numbers"] 3 (sp_pick K) := by
  refine DefOk.by T.d__law_pick sc__law_pick oc__law_pick (fun vs H Q E h => ?_) (fun X e1 e2 e3 e4 e5 C H vs Q E h => ?_)
  · obtain ⟨b, r, p, ns, rfl, _⟩ := h; rfl
  · obtain ⟨b, r, p, ns, rfl, bx, hp, l0, l1, nn, q⟩ := h
    have pb := bx.neInts hp
    wtm_at "go"
    wtm_at "w"
    refine ⟨b, r, 5, rfl, bx, by decide, fun d H1 d0 d1 k1 b1 => ?_⟩
    have h1 := k1.at1 pb hp
    wtm_at "w"
    refine ite_d (fun _ => ?_) (fun _ => ?_)
    · have g0 : ns[0]? = some ns[0] := List.getElem?_eq_getElem l0
      wtm_at "w"
      refine vx_lst (Z.SqL.of' h1) (at_map (by decide) g0) ?_
      wtm_at "w"
      exact q _ H1 k1 b1 (nn _ (List.getElem_mem l0))
    · wtm_at "w"
      refine ⟨b, r, _, rfl, b1, by rw [List.length_map]; omega, fun t H2 t0 t1 k2 b2 => ?_⟩
      have h2 := k2.at1 (b1.neInts h1) h1
      rw [List.length_map] at t1
      obtain ⟨t', rfl⟩ := Int.eq_ofNat_of_zero_le t0
      have ht : t' < ns.length := by omega
      have gx : ns[t']? = some ns[t'] := List.getElem?_eq_getElem ht
      refine vx_lst (Z.SqL.of' h2) (at_map_nat gx) ?_
      wtm_at "w"
      exact q _ H2 (k1.tr1 k2 (.inl (by simp))) b2 (nn _ (List.getElem_mem ht))
end
/-! _law_backs64 -/
section
local macro_rules | `(tactic| wtm_at "d") => `(tactic| first | ((with_reducible show Z.XE _ (PySem.Expr.Call (PySem.Expr.Name "int" _) (_ :: _) [] _) _ _ _); refine Z.xe_callTy (id := "int") (by assumption) (by wtm_at "m") T.b_int (by decide +kernel) ?_) | ((with_reducible show Z.XE _ (PySem.Expr.Name "int" _) _ _ _); refine Z.xe_ty (id := "int") (by assumption) (by wtm_at "m") T.b_int (by decide +kernel) ?_) | fail)
def sp_lb : Sp := fun vs H Q _ => ∃ n : Int, vs = [.int n] ∧ 0 ≤ n ∧ n < 2 ^ 60 ∧ ∀ p H', Kp [] H H' → H p = none → H' p = some (.lst ((bkTo n (cntB n)).map V.int)) → Q (.ref p) H'
theorem ok__law_backs (T : Txt P w K mg base) : DefOk P w K mg base "_law_backs" ["number"] 1 sp_lb := by
  refine DefOk.by T.d__law_backs sc__law_backs oc__law_backs (fun vs H Q E h => ?_) (fun X e1 e2 e3 e4 e5 C H vs Q E h => ?_)
  · obtain ⟨v, rfl, _⟩ := h; rfl
  · obtain ⟨n, rfl, h0, h1, q⟩ := h
    have hc := cnt_le (m := 60) h0 h1
    have cl := cnt_lt h0
    wtm_at "go"
    wtm_at "w"
    intro L H2 k2 nL hL
    wtm_at "w"
    refine xs_forR1 (by assumption) (by wtm_at "m") T.b_range ?_
    wtm_at "w"
    refine ⟨64, rfl, by decide, by decide, fun i σ H' => ∃ (vt : Option V) (p : Int) (c : Nat), σ = [some (.int n), some (.ref L), some (.int p), vt] ∧ Kp [] H H' ∧ H' L = some (.lst ((bkTo n c).map V.int)) ∧ c ≤ cntB n ∧ ((c = i ∧ p = 2 ^ i) ∨ (c = cntB n ∧ p = n + 1 ∧ c < i)), ⟨_, 1, 0, rfl, k2, hL, by omega, .inl ⟨rfl, rfl⟩⟩, ?_, ?_⟩
    · rintro i σ' H3 hi ⟨vt, p, c, rfl, k3, e3, ci, hp⟩
      wtm_at "w"
      rcases hp with ⟨rfl, rfl⟩ | ⟨rfl, rfl, lt⟩
      · have pp : (0 : Int) < 2 ^ c := by rw [← cast_pow]; exact_mod_cast Nat.pow_pos (by decide)
        refine ite_d (fun h => ?_) (fun h => ?_)
        · wtm_at "w"
          refine vo_mod pp ?_
          wtm_at "w"
          refine ite_d (fun h' => ?_) (fun h' => ?_)
          · have z : c < cntB n := (cl c).mpr ⟨by omega, h'⟩
            wtm_at "w"
            refine ⟨e3, szl (by rw [List.length_map, bkTo_len]; omega), fun H4 k4 e4 => ?_⟩
            wtm_at "w"
            refine vo_mul (cmulR ⟨by decide, by decide⟩) ?_
            wtm_at "w"
            refine ⟨_, _, c + 1, rfl, k3.tr1 k4 (.inr nL), ?_, z, .inl ⟨rfl, by rw [Int.pow_succ]⟩⟩
            rw [e4, bkTo_succ, List.map_append]; rfl
          · wtm_at "w"
            have e : c = cntB n := by
              by_cases z : c < cntB n
              · exact absurd ((cl c).mp z).2 h'
              · omega
            exact ⟨_, _, c, rfl, k3, e3, ci, .inr ⟨e, rfl, by omega⟩⟩
        · wtm_at "w"
          have e : c = cntB n := by
            by_cases z : c < cntB n
            · have := ((cl c).mp z).1; omega
            · omega
          exact ⟨_, _, c, rfl, k3, e3, ci, .inr ⟨e, rfl, by omega⟩⟩
      · refine ite_d (fun h => absurd h (by omega)) (fun h => ?_)
        wtm_at "w"
        exact ⟨_, _, _, rfl, k3, e3, ci, .inr ⟨rfl, rfl, by omega⟩⟩
    · rintro σ' H3 ⟨vt, p, c, rfl, k3, e3, ci, hp⟩
      have e64 : (64 : Int).toNat = 64 := rfl
      wtm_at "w"
      have e : c = cntB n := by omega
      exact q L H3 k3 nL (by rw [e3, e])
end
/-! _law_halfC -/
section
local macro_rules | `(tactic| wtm_at "d") => `(tactic| fail)
def sp_half : Sp := fun vs H Q _ => ∃ n : Nat, vs = [.int n] ∧ 2 ≤ n ∧ n ≤ 2 ^ 60 ∧ Q (.int (hf n)) H
theorem ok__law_half (T : Txt P w K mg base) : DefOk P w K mg base "_law_half" ["count"] 1 sp_half := by
  refine DefOk.by T.d__law_half sc__law_half oc__law_half (fun vs H Q E h => ?_) (fun X e1 e2 e3 e4 e5 C H vs Q E h => ?_)
  · obtain ⟨v, rfl, _⟩ := h; rfl
  · obtain ⟨n, rfl, h2, h60, q⟩ := h
    have ln : (n - 1).log2 < n := by
      refine (Nat.log2_lt (by omega)).mpr ?_
      have := Nat.lt_two_pow_self (n := n)
      omega
    wtm_at "go"
    wtm_at "w"
    refine xs_forR1 (by assumption) (by wtm_at "m") T.b_range ?_
    wtm_at "w"
    refine ⟨n, rfl, by omega, by omega, fun t σ H' => ∃ (vt : Option V) (u : Nat), σ = [some (.int n), some (.int ((2 ^ u : Nat) : Int)), vt] ∧ H' = H ∧ u = min t (n - 1).log2, ⟨_, 0, rfl, rfl, by omega⟩, ?_, ?_⟩
    · rintro t σ' H' ht ⟨vt, u, rfl, rfl, tu⟩
      have ps : 2 ^ (u + 1) = 2 ^ u * 2 := by rw [Nat.pow_succ]
      have hl : u + 1 ≤ (n - 1).log2 ↔ 2 ^ (u + 1) ≤ n - 1 := Nat.le_log2 (by omega)
      wtm_at "w"
      refine vo_mul (cmulR ⟨by decide, by decide⟩) ?_
      wtm_at "w"
      refine ite_d (fun h => ?_) (fun h => ?_)
      · wtm_at "w"
        refine vo_mul (cmulR ⟨by decide, by decide⟩) ?_
        wtm_at "w"
        have h' : 2 ^ u * 2 < n := by exact_mod_cast h
        have : u + 1 ≤ (n - 1).log2 := hl.mpr (by omega)
        exact ⟨_, u + 1, by rw [ps, Int.natCast_mul]; rfl, rfl, by omega⟩
      · wtm_at "w"
        have h' : ¬ 2 ^ u * 2 < n := fun z => h (by exact_mod_cast z)
        have : ¬ u + 1 ≤ (n - 1).log2 := fun z => by
          have := hl.mp z
          omega
        exact ⟨_, u, rfl, rfl, by omega⟩
    · rintro σ' H' ⟨vt, u, rfl, rfl, tu⟩
      have e0 : ((n : Int)).toNat = n := by omega
      wtm_at "w"
      have e : u = (n - 1).log2 := by omega
      have e2 : ((2 ^ u : Nat) : Int) = (hf n : Int) := by rw [e]; rfl
      rw [e2]; exact q
end
/-! _law_root_l -/
section
local macro_rules | `(tactic| wtm_at "d") => `(tactic| first | ((with_reducible show Z.XE _ (PySem.Expr.Call (PySem.Expr.Name "len" _) (_ :: _) [] _) _ _ _); refine Z.xe_callB (id := "len") (by assumption) (by wtm_at "m") T.b_len (by decide +kernel) ?_) | ((with_reducible show Z.XE _ (PySem.Expr.Call (PySem.Expr.Name "_law_digest" _) (_ :: _) [] _) _ _ _); refine Z.xe_call (by assumption) (Law.ok__law_digest T) (by wtm_at "m") (by omega) ?_) | ((with_reducible show Z.XE _ (PySem.Expr.Call (PySem.Expr.Name "_law_half" _) (_ :: _) [] _) _ _ _); refine Z.xe_call (by assumption) (Law.ok__law_half T) (by wtm_at "m") (by omega) ?_) | ((with_reducible show Z.XE _ (PySem.Expr.Call (PySem.Expr.Name "_law_root" _) (_ :: _) [] _) _ _ _); refine Z.xe_call (by assumption) (Law.ok__law_root T) (by wtm_at "m") (by omega) ?_) | fail)
def sp_lroot (d : Nat) (K : PySem.W.Frag) : Sp := fun vs H Q _ => ∃ (m e : Addr) (b f : Int) (es : List Int), vs = [.ref m, .ref e] ∧ SqL K H m [.int b, .int f] ∧ SqL K H e (es.map V.int) ∧ 1 ≤ es.length ∧ es.length ≤ 2 ^ d ∧ 0 < b ∧ ∀ H', Kp [] H H' → Q (.int (rt b f es)) H'
theorem lroot_by (T : Txt P w K mg base) (d : Nat) (h9 : d ≤ 9) (ih : 0 < d → DefOk P w K mg base "_law_root" ["mix", "entries"] (d + 1) (sp_lroot (d - 1) K)) : DefOk P w K mg base "_law_root" ["mix", "entries"] (d + 1 + 1) (sp_lroot d K) := by
  refine DefOk.by T.d__law_root sc__law_root oc__law_root (fun vs H Q E h => ?_) (fun X e1 e2 e3 e4 e5 C H vs Q E h => ?_)
  · obtain ⟨p, e, b, f, es, rfl, _⟩ := h; rfl
  · obtain ⟨p, e, b, f, es, rfl, hm, he, l1, ld, hb, q⟩ := h
    have h512 : es.length ≤ 512 := Nat.le_trans ld (Nat.pow_le_pow_right (by decide) h9)
    wtm_at "go"
    wtm_at "w"
    rw [List.length_map]
    refine ite_d (fun h1 => ?_) (fun h1 => ?_)
    · have h2 : ¬ 2 ≤ es.length := by omega
      wtm_at "w"
      have h0 : es[0]? = some (es.headD 0) := by
        cases es with
        | nil => simp at l1
        | cons x xs => rfl
      refine vx_lst he (at_map (by decide) h0) ?_
      wtm_at "w"
      rw [← rt_one (b := b) (f := f) h2]
      exact q H (Kp.refl _ _)
    · have h2 : 2 ≤ es.length := by omega
      have d0 : 0 < d := by
        cases d with
        | zero => simp at ld; omega
        | succ d => omega
      obtain ⟨d', rfl⟩ : ∃ d', d = d' + 1 := ⟨d - 1, by omega⟩
      have lt := hf_lt h2
      have lp := hf_pos es.length
      wtm_at "w"
      refine ⟨es.length, by rw [List.length_map], h2, by omega, ?_⟩
      wtm_at "w"
      refine xe_call (by assumption) (ih d0) (by wtm_at "m") (by omega) ?_
      wtm_at "w"
      refine vsl_lst he (fun c1 H1 k1 n1 g1 => ?_)
      rw [cut_take _ _ (by rw [List.length_map]; omega), ← List.map_take] at g1
      wtm_at "w"
      refine ⟨p, c1, b, f, _, rfl, k1.lst0 hm, Z.SqL.of' g1, by rw [len_take h2]; omega, by rw [len_take h2]; exact hf_le h2 ld, hb, fun H2 k2 => ?_⟩
      wtm_at "w"
      refine xe_call (by assumption) (ih d0) (by wtm_at "m") (by omega) ?_
      wtm_at "w"
      refine vsl_lst (k2.lst0 (k1.lst0 he)) (fun c2 H3 k3 n3 g3 => ?_)
      rw [cut_drop _ _ (by rw [List.length_map]; omega), ← List.map_drop] at g3
      wtm_at "w"
      refine ⟨p, c2, b, f, _, rfl, k3.lst0 (k2.lst0 (k1.lst0 hm)), Z.SqL.of' g3, by rw [List.length_drop]; omega, by rw [List.length_drop]; exact rest_le h2 ld, hb, fun H4 k4 => ?_⟩
      wtm_at "w"
      intro nd H5 k5 hnd _
      wtm_at "w"
      have k05 := (((k1.tr0 k2).tr0 k3).tr0 k4).tr0 k5
      refine ⟨p, nd, b, f, [3, rt b f (es.take (hf es.length)), rt b f (es.drop (hf es.length))], rfl, k05.lst0 hm, hnd, hb, ?_⟩
      rw [← rt_two h2]
      exact q H5 k05
theorem lroot_ok (T : Txt P w K mg base) : ∀ d, d ≤ 9 → DefOk P w K mg base "_law_root" ["mix", "entries"] (d + 1 + 1) (sp_lroot d K)
  | 0, h => lroot_by T 0 h fun h => absurd h (by omega)
  | d + 1, h => lroot_by T (d + 1) h fun _ => lroot_ok T d (by omega)
theorem ok__law_root (T : Txt P w K mg base) : DefOk P w K mg base "_law_root" ["mix", "entries"] 11 (sp_lroot 9 K) := lroot_ok T 9 (by omega)
end
/-! dictT -/
/-! dicts whose keys are rows; plain tuples -/
section
variable {X : Cx} {σ : St} {H : Hp} {Q : VK} {N Vs Ls G : List Str} {k : Nat} {sc : Scope} {e o i : Expr} {pos p1 : Pos} {D : B3} {nx : St → Hp → Prop} {p q : Addr} {xs ys : List V}
theorem xe_dnewT (h : ∀ p H', Kp [] H H' → H p = none → H' p = some (.dT []) → Q (.ref p) H') : XE X (.Dict [] [] pos) σ H Q := ⟨_, pe_dnewT, new_ h⟩
theorem xs_dputT (C : Ctx X sc N Vs Ls G k) (h : XE X e σ H fun v H1 => XE X o σ H1 fun x H2 => XE X i σ H2 fun y H3 => ∃ (p a : Addr) (kvs : List (List Key × V)) (kk : List Key), x = .ref p ∧ y = .ref a ∧ H3 p = some (.dT kvs) ∧ H3 a = some (.tup (kk.map kV)) ∧ kvs.length < sizeLine ∧ ∀ H', Kp [p] H3 H' → H' p = some (.dT (putK kvs kk v)) → nx σ H')
    (hs : swapsWith e (some (.Subscript o i p1)) pos.line X.env = pure false := by rfl) : XS X (.Assign [.Subscript o i p1] e pos) nx D σ H :=
  ⟨_, ps_dput C.hu XE.pe XE.pe XE.pe hs, XE.mono h fun v H1 h => XE.mono h fun x H2 h => XE.mono h fun y H3 ⟨p, a, kvs, kk, e1, e2, e3, e5, e4, q⟩ => ⟨p, _, e1, .inr ⟨kvs, kk, a, e3, e2, e5, e4, rfl⟩, q _ (Kp.set e3 rfl) upd_same⟩⟩
theorem vo_catP (hx : H p = some (.tup xs)) (hy : H q = some (.tup ys)) (hz : xs.length + ys.length ≤ sizeLine) (h : ∀ r H', Kp [] H H' → H' r = some (.tup (xs ++ ys)) → Q (.ref r) H') : VO X (binaryOp .Add) (.ref p) (.ref q) H Q := by
  refine ⟨_, op_catA, p, q, xs, ys, rfl, rfl, .inl (.inl hx), .inl (.inl hy), hz, fun e => ?_, fun _ e => ?_, fun _ _ r hr => h r _ (Kp.new hr) upd_same⟩
  · subst e; exact h q H (Kp.refl _ _) hy
  · subst e; exact h p H (Kp.refl _ _) (by simpa using hx)
theorem vc_tupLP (hx : SqL X.K H p xs) (h : ∀ p H', Kp [] H H' → H' p = some (.tup xs) → Q (.ref p) H') : VC X (.type "tuple") [.ref p] H Q := ⟨_, call_tuple_of, p, xs, rfl, .inl ⟨hx, fun p hp => h p _ (Kp.new hp) upd_same⟩⟩
end
/-! thsP -/
/-! things by digits: a row and its entries -/
def rowB (h v : Int) : List Int := [1, h, v]
def rowD (cs bs : List Int) : List Int := 2 :: (cs.length : Int) :: (cs ++ bs)
def rowR (d : Int) : List Int := [5, d]
def rowH (n f s k h : Int) (es bs : List Int) : List Int := [4, s, k, h, (es.length : Int), rt n f es] ++ bs
inductive Th (n f : Int) : List Int → List Int → Prop where
  | beacon (h v : Int) (h0 : 0 ≤ h) (v0 : 0 ≤ v) : Th n f (rowB h v) []
  | doc (cs bs : List Int) (c3 : cs.length ≤ 3) (b2 : bs.length ≤ 2) (c0 : ∀ x ∈ cs, 0 ≤ x) (b0 : ∀ x ∈ bs, 0 ≤ x) : Th n f (rowD cs bs) []
  | renew (d : Int) (d0 : 0 ≤ d) : Th n f (rowR d) []
  | head (s k h : Int) (es bs : List Int) (s0 : 0 ≤ s) (s1 : s < 2) (k0 : 0 ≤ k) (k1 : k ≤ 64) (h0 : 0 ≤ h) (e1 : 1 ≤ es.length) (e5 : es.length ≤ 5) (eb : bs.length = cntB k) (e0 : ∀ x ∈ es, 0 ≤ x) (b0 : ∀ x ∈ bs, 0 ≤ x) : Th n f (rowH n f s k h es bs) es
theorem Th.pos {n f : Int} {row es : List Int} (h : Th n f row es) : 0 < row.length := by cases h <;> simp [rowB, rowD, rowR, rowH]
theorem Th.len {n f : Int} {row es : List Int} (h : Th n f row es) : row.length ≤ 100 := by
  cases h with
  | beacon => simp [rowB]
  | doc => simp [rowD]; omega
  | renew => simp [rowR]
  | head s k h es bs s0 s1 k0 k1 h0 e1 e5 eb =>
    have := cnt_le (m := 7) (n := k) k0 (by omega)
    simp [rowH]; omega
theorem Th.el {n f : Int} {row es : List Int} (h : Th n f row es) : es.length ≤ 5 := by
  cases h with
  | beacon => simp
  | doc => simp
  | renew => simp
  | head s k h es bs s0 s1 k0 k1 h0 e1 e5 => exact e5
/-- such a thing at p -/
def ThAt (K : PySem.W.Frag) (H : Hp) (n f : Int) (p : Addr) (t : List Int × List Int) : Prop := ∃ a e : Addr, H p = some (.lst [.ref a, .ref e]) ∧ H a = some (.tup (t.1.map V.int)) ∧ H e = some (.lst (t.2.map V.int)) ∧ Th n f t.1 t.2
theorem ThAt.kp {K : PySem.W.Frag} {H H' : Hp} {n f : Int} {p : Addr} {t : List Int × List Int} (h : ThAt K H n f p t) (k : Kp [] H H') : ThAt K H' n f p t := by
  obtain ⟨a, e, h1, h2, h3, h4⟩ := h
  exact ⟨a, e, k.at0 h1, k.t _ _ h2, k.at0 h3, h4⟩
theorem Box.neRefs {H : Hp} {b r p : Addr} {as : List Addr} (bx : Box H b r) (h : H p = some (.lst (as.map V.ref))) : p ≠ b := by
  intro e
  obtain ⟨i, ns, hb, _, _⟩ := bx
  rw [e, hb] at h
  have h' := HO.lst.inj (Option.some.inj h)
  cases as with
  | nil => cases h'
  | cons x as =>
    cases as with
    | nil => cases h'
    | cons y as => rw [List.map_cons, List.map_cons] at h'; exact nomatch (List.cons.inj (List.cons.inj h').2).1
theorem ThAt.draw {K : PySem.W.Frag} {H H' : Hp} {n f : Int} {p b r : Addr} {t : List Int × List Int} (h : ThAt K H n f p t) (bx : Box H b r) (k : Kp [b] H H') : ThAt K H' n f p t := by
  obtain ⟨a, e, h1, h2, h3, h4⟩ := h
  exact ⟨a, e, k.at1 (bx.neRefs (as := [a, e]) h1) h1, k.t _ _ h2, k.at1 (bx.neInts h3) h3, h4⟩
/-- such things, one behind the other -/
def ThsAt (K : PySem.W.Frag) (H : Hp) (n f : Int) (ps : List Addr) (ts : List (List Int × List Int)) : Prop := ps.length = ts.length ∧ ∀ (i : Nat) (p : Addr) (t : List Int × List Int), ps[i]? = some p → ts[i]? = some t → ThAt K H n f p t
theorem ThsAt.kp {K : PySem.W.Frag} {H H' : Hp} {n f : Int} {ps : List Addr} {ts : List (List Int × List Int)} (h : ThsAt K H n f ps ts) (k : Kp [] H H') : ThsAt K H' n f ps ts := ⟨h.1, fun i p t a c => (h.2 i p t a c).kp k⟩
theorem ThsAt.draw {K : PySem.W.Frag} {H H' : Hp} {n f : Int} {b r : Addr} {ps : List Addr} {ts : List (List Int × List Int)} (h : ThsAt K H n f ps ts) (bx : Box H b r) (k : Kp [b] H H') : ThsAt K H' n f ps ts := ⟨h.1, fun i p t a c => (h.2 i p t a c).draw bx k⟩
theorem ThsAt.nil {K : PySem.W.Frag} {H : Hp} {n f : Int} : ThsAt K H n f [] [] := ⟨rfl, fun i p t a _ => by simp at a⟩
theorem ThsAt.snoc {K : PySem.W.Frag} {H : Hp} {n f : Int} {ps : List Addr} {ts : List (List Int × List Int)} {p : Addr} {t : List Int × List Int} (h : ThsAt K H n f ps ts) (g : ThAt K H n f p t) : ThsAt K H n f (ps ++ [p]) (ts ++ [t]) := by
  refine ⟨by simp [h.1], fun i p' t' a c => ?_⟩
  by_cases hi : i < ps.length
  · rw [List.getElem?_append_left hi] at a
    rw [List.getElem?_append_left (by rw [← h.1]; exact hi)] at c
    exact h.2 i p' t' a c
  · rw [List.getElem?_append_right (by omega)] at a
    rw [List.getElem?_append_right (by rw [← h.1]; omega)] at c
    have i0 : i - ps.length = 0 := by
      have := (List.getElem?_eq_some_iff.mp a).1
      simp at this; omega
    rw [i0] at a
    rw [show i - ts.length = 0 by rw [← h.1]; exact i0] at c
    have e1 : p = p' := by simpa using a
    have e2 : t = t' := by simpa using c
    rw [← e1, ← e2]; exact g
theorem ThsAt.at {K : PySem.W.Frag} {H : Hp} {n f : Int} {ps : List Addr} {ts : List (List Int × List Int)} {i : Nat} {y : V} (h : ThsAt K H n f ps ts) (hy : (ps.map V.ref)[i]? = some y) : ∃ p t, y = .ref p ∧ ps[i]? = some p ∧ ts[i]? = some t ∧ ThAt K H n f p t := by
  rw [List.getElem?_map] at hy
  obtain ⟨p, hp, rfl⟩ := Option.map_eq_some_iff.mp hy
  have hi := (List.getElem?_eq_some_iff.mp hp).1
  have ht : ts[i]? = some (ts[i]'(by rw [← h.1]; exact hi)) := List.getElem?_eq_getElem _
  exact ⟨p, _, rfl, hp, ht, h.2 i p _ hp ht⟩
/-- a thing made since then -/
def ThNew (K : PySem.W.Frag) (H H' : Hp) (n f : Int) (p : Addr) (t : List Int × List Int) : Prop := ∃ a e : Addr, H' p = some (.lst [.ref a, .ref e]) ∧ H' a = some (.tup (t.1.map V.int)) ∧ H' e = some (.lst (t.2.map V.int)) ∧ Th n f t.1 t.2 ∧ H p = none ∧ H e = none
/-- a thing beside M -/
def ThAv (K : PySem.W.Frag) (H : Hp) (n f : Int) (M p : Addr) (t : List Int × List Int) : Prop := ∃ a e : Addr, H p = some (.lst [.ref a, .ref e]) ∧ H a = some (.tup (t.1.map V.int)) ∧ H e = some (.lst (t.2.map V.int)) ∧ Th n f t.1 t.2 ∧ p ≠ M ∧ e ≠ M
theorem ThNew.av {K : PySem.W.Frag} {H H' : Hp} {n f : Int} {M p : Addr} {t : List Int × List Int} {o : HO} (h : ThNew K H H' n f p t) (hM : H M = some o) : ThAv K H' n f M p t := by
  obtain ⟨a, e, h1, h2, h3, h4, h5, h6⟩ := h
  exact ⟨a, e, h1, h2, h3, h4, (ne_of_none hM h5).symm, (ne_of_none hM h6).symm⟩
theorem ThNew.at {K : PySem.W.Frag} {H H' : Hp} {n f : Int} {p : Addr} {t : List Int × List Int} (h : ThNew K H H' n f p t) : ThAt K H' n f p t := by
  obtain ⟨a, e, h1, h2, h3, h4, h5, h6⟩ := h
  exact ⟨a, e, h1, h2, h3, h4⟩
theorem ThAv.at {K : PySem.W.Frag} {H : Hp} {n f : Int} {M p : Addr} {t : List Int × List Int} (h : ThAv K H n f M p t) : ThAt K H n f p t := by
  obtain ⟨a, e, h1, h2, h3, h4, h5, h6⟩ := h
  exact ⟨a, e, h1, h2, h3, h4⟩
theorem ThAv.set {K : PySem.W.Frag} {H H' : Hp} {n f : Int} {M p : Addr} {t : List Int × List Int} (h : ThAv K H n f M p t) (k : Kp [M] H H') : ThAv K H' n f M p t := by
  obtain ⟨a, e, h1, h2, h3, h4, h5, h6⟩ := h
  exact ⟨a, e, k.at1 h5 h1, k.t _ _ h2, k.at1 h6 h3, h4, h5, h6⟩
theorem ThAv.draw {K : PySem.W.Frag} {H H' : Hp} {n f : Int} {M p b r : Addr} {t : List Int × List Int} (h : ThAv K H n f M p t) (bx : Box H b r) (k : Kp [b] H H') : ThAv K H' n f M p t := by
  obtain ⟨a, e, h1, h2, h3, h4, h5, h6⟩ := h
  exact ⟨a, e, k.at1 (bx.neRefs (as := [a, e]) h1) h1, k.t _ _ h2, k.at1 (bx.neInts h3) h3, h4, h5, h6⟩
def ThsAv (K : PySem.W.Frag) (H : Hp) (n f : Int) (M : Addr) (ps : List Addr) (ts : List (List Int × List Int)) : Prop := ps.length = ts.length ∧ ∀ (i : Nat) (p : Addr) (t : List Int × List Int), ps[i]? = some p → ts[i]? = some t → ThAv K H n f M p t
theorem ThsAv.at {K : PySem.W.Frag} {H : Hp} {n f : Int} {M : Addr} {ps : List Addr} {ts : List (List Int × List Int)} (h : ThsAv K H n f M ps ts) : ThsAt K H n f ps ts := ⟨h.1, fun i p t a c => (h.2 i p t a c).at⟩
theorem ThsAv.draw {K : PySem.W.Frag} {H H' : Hp} {n f : Int} {M b r : Addr} {ps : List Addr} {ts : List (List Int × List Int)} (h : ThsAv K H n f M ps ts) (bx : Box H b r) (k : Kp [b] H H') : ThsAv K H' n f M ps ts := ⟨h.1, fun i p t a c => (h.2 i p t a c).draw bx k⟩
theorem ThsAv.set {K : PySem.W.Frag} {H H' : Hp} {n f : Int} {M : Addr} {ps : List Addr} {ts : List (List Int × List Int)} (h : ThsAv K H n f M ps ts) (k : Kp [M] H H') : ThsAv K H' n f M ps ts := ⟨h.1, fun i p t a c => (h.2 i p t a c).set k⟩
theorem ThsAv.nil {K : PySem.W.Frag} {H : Hp} {n f : Int} {M : Addr} : ThsAv K H n f M [] [] := ⟨rfl, fun i p t a _ => by simp at a⟩
theorem ThsAv.snoc {K : PySem.W.Frag} {H : Hp} {n f : Int} {M : Addr} {ps : List Addr} {ts : List (List Int × List Int)} {p : Addr} {t : List Int × List Int} (h : ThsAv K H n f M ps ts) (g : ThAv K H n f M p t) : ThsAv K H n f M (ps ++ [p]) (ts ++ [t]) := by
  refine ⟨by simp [h.1], fun i p' t' a c => ?_⟩
  by_cases hi : i < ps.length
  · rw [List.getElem?_append_left hi] at a
    rw [List.getElem?_append_left (by rw [← h.1]; exact hi)] at c
    exact h.2 i p' t' a c
  · rw [List.getElem?_append_right (by omega)] at a
    rw [List.getElem?_append_right (by rw [← h.1]; omega)] at c
    have i0 : i - ps.length = 0 := by
      have := (List.getElem?_eq_some_iff.mp a).1
      simp at this; omega
    rw [i0] at a
    rw [show i - ts.length = 0 by rw [← h.1]; exact i0] at c
    have e1 : p = p' := by simpa using a
    have e2 : t = t' := by simpa using c
    rw [← e1, ← e2]; exact g
/-! _law_poolP -/
section
local macro_rules | `(tactic| wtm_at "d") => `(tactic| first | ((with_reducible show Z.XE _ (PySem.Expr.Call (PySem.Expr.Name "int" _) (_ :: _) [] _) _ _ _); refine Z.xe_callTy (id := "int") (by assumption) (by wtm_at "m") T.b_int (by decide +kernel) ?_) | ((with_reducible show Z.XE _ (PySem.Expr.Name "int" _) _ _ _); refine Z.xe_ty (id := "int") (by assumption) (by wtm_at "m") T.b_int (by decide +kernel) ?_) | ((with_reducible show Z.XE _ (PySem.Expr.Call (PySem.Expr.Name "_law_draw" _) (_ :: _) [] _) _ _ _); refine Z.xe_call (by assumption) (Law.ok__law_draw T) (by wtm_at "m") (by omega) ?_) | ((with_reducible show Z.XE _ (PySem.Expr.Call (PySem.Expr.Name "_law_digest" _) (_ :: _) [] _) _ _ _); refine Z.xe_call (by assumption) (Law.ok__law_digest T) (by wtm_at "m") (by omega) ?_) | fail)
def sp_pool (K : PySem.W.Frag) : Sp := fun vs H Q _ => ∃ (b r m M : Addr) (n f : Int) (ps : List Addr) (ts : List (List Int × List Int)), vs = [.ref b, .ref m, .ref M] ∧ Box H b r ∧ H m = some (.lst ([n, f].map V.int)) ∧ 0 < n ∧ H M = some (.lst (ps.map V.ref)) ∧ ThsAt K H n f ps ts ∧ ps.length ≤ 1000 ∧
  ∀ (p : Addr) (ns : List Int) H', Kp [b] H H' → Box H' b r → H p = none → H' p = some (.lst (ns.map V.int)) → 0 < ns.length → ns.length ≤ 1001 → (∀ x ∈ ns, 0 ≤ x) → Q (.ref p) H'
theorem ok__law_pool (T : Txt P w K mg base) : DefOk P w K mg base "_law_pool" ["box", "mix", "things"] 3 (sp_pool K) := by
  refine DefOk.by T.d__law_pool sc__law_pool oc__law_pool (fun vs H Q E h => ?_) (fun X e1 e2 e3 e4 e5 C H vs Q E h => ?_)
  · obtain ⟨b, r, m, M, n, f, ps, ts, rfl, _⟩ := h; rfl
  · obtain ⟨b, r, m, M, n, f, ps, ts, rfl, bx, hm, hn, hM, hT, lp, q⟩ := h
    wtm_at "go"
    wtm_at "w"
    refine ⟨b, r, 840, rfl, bx, by decide, fun d H1 d0 d1 k1 b1 => ?_⟩
    have m1 : H1 m = some (.lst [.int n, .int f]) := k1.at1 (bx.neInts hm) hm
    have M1 := k1.at1 (bx.neRefs hM) hM
    have T1 := hT.draw bx k1
    wtm_at "w"
    refine vo_mod hn ?_
    wtm_at "w"
    intro L H2 k2 nL hL
    have x0 := Int.emod_nonneg d (show n ≠ 0 by omega)
    wtm_at "w"
    refine xs_forL (by assumption) ?_
    wtm_at "w"
    refine ⟨M, _, rfl, Z.SqL.of' (k2.at0 M1), fun i σ H' => ∃ (ns : List Int) (v : Option V), σ = [some (.ref b), some (.ref m), some (.ref M), some (.ref L), v] ∧ Kp [] H1 H' ∧ H' L = some (.lst (ns.map V.int)) ∧ ns.length = i + 1 ∧ ∀ x ∈ ns, 0 ≤ x, ⟨[d % n], none, rfl, k2, hL, rfl, by intro x hx; rw [List.mem_singleton.mp hx]; exact x0⟩, ?_, ?_, ?_⟩
    · rintro i σ' H' _ ⟨ns, v, rfl, k, _⟩
      exact Z.SqL.of' (k.at0 M1)
    · rintro i y σ' H3 hy ⟨ns, v, rfl, k3, h3, l3, g3⟩
      obtain ⟨p, t, rfl, hp, ht, a, e, hpp, ha, he, th⟩ := (T1.kp k3).at hy
      have ip : i < ps.length := (List.getElem?_eq_some_iff.mp hp).1
      have m3 := k3.at0 m1
      wtm_at "w"
      refine ⟨m, a, n, f, t.1, rfl, Z.SqL.of' m3, Z.SqT.of' ha, hn, ?_⟩
      have dr := (dig_rng (b := n) (f := f) (ns := t.1) hn).1
      refine ⟨h3, szl (by rw [List.length_map]; omega), fun H4 k4 h4 => ?_⟩
      wtm_at "w"
      refine ⟨ns ++ [dig n f t.1], _, rfl, k3.tr1 k4 (.inr nL), by rw [h4, List.map_append]; rfl, by simp [l3], fun x hx => ?_⟩
      rcases List.mem_append.mp hx with z | z
      · exact g3 x z
      · rw [List.mem_singleton.mp z]; exact dr
    · rintro σ' H3 ⟨ns, v, rfl, k3, h3, l3, g3⟩
      rw [List.length_map] at l3
      wtm_at "w"
      exact q L ns H3 (k1.tr0 k3) (b1.kp k3) (k1.n _ nL) h3 (by omega) (by omega) g3
end
/-! _law_headP -/
section
local macro_rules | `(tactic| wtm_at "d") => `(tactic| first | ((with_reducible show Z.XE _ (PySem.Expr.Call (PySem.Expr.Name "len" _) (_ :: _) [] _) _ _ _); refine Z.xe_callB (id := "len") (by assumption) (by wtm_at "m") T.b_len (by decide +kernel) ?_) | ((with_reducible show Z.XE _ (PySem.Expr.Call (PySem.Expr.Name "tuple" _) (_ :: _) [] _) _ _ _); refine Z.xe_callTy (id := "tuple") (by assumption) (by wtm_at "m") T.b_tuple (by decide +kernel) ?_) | ((with_reducible show Z.XE _ (PySem.Expr.Name "tuple" _) _ _ _); refine Z.xe_ty (id := "tuple") (by assumption) (by wtm_at "m") T.b_tuple (by decide +kernel) ?_) | ((with_reducible show Z.XE _ (PySem.Expr.Call (PySem.Expr.Name "_law_draw" _) (_ :: _) [] _) _ _ _); refine Z.xe_call (by assumption) (Law.ok__law_draw T) (by wtm_at "m") (by omega) ?_) | ((with_reducible show Z.XE _ (PySem.Expr.Call (PySem.Expr.Name "_law_digest" _) (_ :: _) [] _) _ _ _); refine Z.xe_call (by assumption) (Law.ok__law_digest T) (by wtm_at "m") (by omega) ?_) | ((with_reducible show Z.XE _ (PySem.Expr.Call (PySem.Expr.Name "_law_root" _) (_ :: _) [] _) _ _ _); refine Z.xe_call (by assumption) (Law.ok__law_root T) (by wtm_at "m") (by omega) ?_) | ((with_reducible show Z.XE _ (PySem.Expr.Call (PySem.Expr.Name "_law_backs" _) (_ :: _) [] _) _ _ _); refine Z.xe_call (by assumption) (Law.ok__law_backs T) (by wtm_at "m") (by omega) ?_) | ((with_reducible show Z.XE _ (PySem.Expr.Call (PySem.Expr.Name "_law_pick" _) (_ :: _) [] _) _ _ _); refine Z.xe_call (by assumption) (Law.ok__law_pick T) (by wtm_at "m") (by omega) ?_) | fail)
theorem Th.head_of {n f : Int} {row es : List Int} (h : Th n f row es) (e : row.getD 0 0 = 4) : 6 ≤ row.length := by
  cases h with
  | beacon => exact absurd e (by show ¬ (1 : Int) = 4; decide)
  | doc => exact absurd e (by show ¬ (2 : Int) = 4; decide)
  | renew => exact absurd e (by show ¬ (5 : Int) = 4; decide)
  | head => simp [rowH]
/-- rows that are there -/
def MineAt (K : PySem.W.Frag) (H : Hp) (as : List Addr) : Prop := ∀ a ∈ as, ∃ row : List Int, SqT K H a (row.map V.int) ∧ 6 ≤ row.length
theorem MineAt.kp {K : PySem.W.Frag} {H H' : Hp} {A : List Addr} {as : List Addr} (h : MineAt K H as) (k : Kp A H H') : MineAt K H' as := fun a ha => by
  obtain ⟨row, h1, h2⟩ := h a ha
  exact ⟨row, k.tup h1, h2⟩
def sp_head (K : PySem.W.Frag) : Sp := fun vs H Q _ => ∃ (b r m M P : Addr) (n f : Int) (ps : List Addr) (ts : List (List Int × List Int)) (ns : List Int), vs = [.ref b, .ref m, .ref M, .ref P] ∧ Box H b r ∧ H m = some (.lst ([n, f].map V.int)) ∧ 0 < n ∧ H M = some (.lst (ps.map V.ref)) ∧ ThsAt K H n f ps ts ∧ ps.length ≤ 60 ∧ H P = some (.lst (ns.map V.int)) ∧ 0 < ns.length ∧ ns.length ≤ 100000 ∧ (∀ x ∈ ns, 0 ≤ x) ∧
  ∀ (p : Addr) (t : List Int × List Int) H', Kp [b] H H' → Box H' b r → ThNew K H H' n f p t → Q (.ref p) H'
theorem ok__law_head (T : Txt P w K mg base) : DefOk P w K mg base "_law_head" ["box", "mix", "things", "numbers"] 13 (sp_head K) := by
  refine DefOk.by T.d__law_head sc__law_head oc__law_head (fun vs H Q E h => ?_) (fun X e1 e2 e3 e4 e5 C H vs Q E h => ?_)
  · obtain ⟨b, r, m, M, P, n, f, ps, ts, ns, rfl, _⟩ := h; rfl
  · obtain ⟨b, r, m, M, P, n, f, ps, ts, ns, rfl, bx, hm, hn, hM, hT, lp, hP, l0, l1, nn, q⟩ := h
    have rest : ∀ (s : Int) (Mn : Addr) (as : List Addr) (N : Int) (H4 : Hp), 0 ≤ s → s < 2 → as.length ≤ 60 → 0 ≤ N → N ≤ 64 → Kp [b] H H4 → Box H4 b r → H4 m = some (.lst ([n, f].map V.int)) → H4 P = some (.lst (ns.map V.int)) → H4 Mn = some (.lst (as.map V.ref)) → MineAt K H4 as →
        XB X ((defBody s__law_head).drop 4) (fun _ H' => Q .non H') ⟨Q, fun _ _ => False, fun _ _ => False⟩ [some (.ref b), some (.ref m), some (.ref M), some (.ref P), some (.int s), some (.ref Mn), some (.int N), none, none, none, none, none, none, none, none] H4 := by
      subst e1; subst e2; subst e3; subst e4; subst e5
      intro s Mn as N H4 s0 s1 la N0 N1 kH4 b4 m4 P4 n4 g4
      clear hT hm hM hP
      refine xb_cons ?_
      wtm_at "w"
      refine xs_setLc C (by wtm_at "m") (by decide +kernel) rfl (by decide +kernel) ?_
      refine xlc_R1 (Vs' := ["box", "numbers", "k"]) (G' := ["_law_pick"]) (nm := "k") (i := 14) (by assumption) ⟨rfl, by decide +kernel, by decide +kernel, rfl, by decide +kernel, by decide⟩ (by wtm_at "m") T.b_range ?_
      wtm_at "w"
      refine ⟨b, r, 5, rfl, b4, by decide, fun d H5 d0 d1 k5 b5 => ?_⟩
      have m5 := k5.at1 (b4.neInts m4) m4
      have P5 := k5.at1 (b4.neInts P4) P4
      have n5 := k5.at1 (b4.neRefs n4) n4
      have g5 := g4.kp k5
      have kH5 := kH4.tr1 k5 (.inl (by simp))
      clear k5 kH4 m4 P4 n4 g4
      wtm_at "w"
      refine ⟨_, rfl, by omega, by omega, fun E H6 k6 nE eE => ?_⟩
      have nbP := b5.neInts P5
      have nPE : P ≠ E := ne_of_none P5 nE
      have nEH := kH5.n _ nE
      refine ⟨fun t H' => LcI (fun x => 0 ≤ x) H6 b r E t H', .start b5 k6 nE eE, ?_, ?_⟩
      · rintro t H7 ht I7
        refine ⟨_, by wtm_at "u", ?_⟩
        intro s0 H0 c' cl fp C'
        have P7 : H7 P = some (.lst (ns.map V.int)) := I7.2.1.at (by simp [nbP, nPE]) (k6.at0 P5)
        wtm_at "w"
        refine ⟨b, r, P, ns, rfl, I7.2.2.1, P7, l0, l1, nn, fun x H8 k8 b8 x0 => ?_⟩
        obtain ⟨acc, a1, a2, nt, rfl, a3, a4, a5⟩ := I7.sz (by omega) k8
        exact ⟨_, a1, a2, fun H9 k9 e9 => I7.push a4 a5 k8 b8 x0 k9 e9⟩
      · rintro H7 I7
        have kk := I7.kp k6 nE
        obtain ⟨_, _, b7, es, e7, lo, pe⟩ := I7
        have m7 := kk.at1 (b5.neInts m5) m5
        have P7 := kk.at1 nbP P5
        have n7 := kk.at1 (b5.neRefs n5) n5
        have g7 := g5.kp kk
        have kH7 := kH5.tr kk (fun l z => .inl z)
        clear kk k6 kH5 m5 P5 n5 g5
        wtm_at "w"
        intro B H8 k8 nB hB
        have c69 := cnt_le (m := 7) (n := N) N0 (by omega)
        have b8 := b7.kp k8
        wtm_at "w"
        refine xs_forL (by assumption) ?_
        wtm_at "w"
        refine ⟨N, rfl, N0, by omega, fun L3 H9 k9 n9 h9 => ?_⟩
        have nLB : L3 ≠ B := (ne_of_none hB n9).symm
        have hB9 := k9.at0 hB
        have b9 := b8.kp k9
        have k79 : Kp [b] H7 H9 := ((Kp.refl [b] H7).tr0 k8).tr0 k9
        clear k8 k9 b8 hB
        refine ⟨L3, _, rfl, Z.SqL.of' h9, fun i σ H' => ∃ (bs : List Int) (v1 v2 : Option V), σ = [some (.ref b), some (.ref m), some (.ref M), some (.ref P), some (.int s), some (.ref Mn), some (.int N), some (.ref E), some (.ref B), v1, none, v2, none, none, none] ∧ Kp [b] H7 H' ∧ Box H' b r ∧ H' B = some (.lst (bs.map V.int)) ∧ bs.length = i ∧ (∀ x ∈ bs, 0 ≤ x) ∧ H' L3 = some (.lst ((bkTo N (cntB N)).map V.int)), ⟨[], none, none, rfl, k79, b9, hB9, rfl, (fun x hx => nomatch hx), h9⟩, ?_, ?_, ?_⟩
        · rintro i σ' H' _ ⟨bs, v1, v2, rfl, _, _, _, _, _, h⟩
          exact Z.SqL.of' h
        · rintro i y σ' H10 hy ⟨bs, v1, v2, rfl, k10, b10, hB10, lb, gb, h10⟩
          obtain ⟨ea, hea, rfl⟩ := map_at hy
          have ib : i < cntB N := by
            have := (List.getElem?_eq_some_iff.mp hea).1
            rw [bkTo_len] at this; exact this
          have m10 := k10.at1 (b7.neInts m7) m7
          have P10 := k10.at1 (b7.neInts P7) P7
          have n10 := k10.at1 (b7.neRefs n7) n7
          have g10 := g7.kp k10
          wtm_at "w"
          refine xs_setLc C (by wtm_at "m") (by decide +kernel) rfl (by decide +kernel) ?_
          refine xlc_L (Vs' := ["mix", "earlier", "row"]) (G' := ["_law_digest"]) (nm := "row") (i := 10) (by assumption) ⟨rfl, by decide +kernel, by decide +kernel, rfl, by decide +kernel, by decide⟩ ?_
          wtm_at "w"
          refine ⟨Mn, _, rfl, Z.SqL.of' n10, fun F H11 k11 nF eF => ?_⟩
          refine ⟨fun t H' => ∃ fs : List Int, H' F = some (.lst (fs.map V.int)) ∧ fs.length ≤ t ∧ (∀ x ∈ fs, 0 ≤ x) ∧ Kp [] H10 H', ⟨[], eF, Nat.le_refl _, (fun x hx => nomatch hx), k11⟩, ?_, ?_, ?_⟩
          · rintro t H' _ ⟨fs, _, _, _, k⟩
            exact Z.SqL.of' (k.at0 n10)
          · rintro t y H12 hy ⟨fs, h12, lf, gf, k12⟩
            rw [List.getElem?_map] at hy
            obtain ⟨a, ha, rfl⟩ := Option.map_eq_some_iff.mp hy
            have ia := (List.getElem?_eq_some_iff.mp ha).1
            obtain ⟨row, hr, r6⟩ := (g10.kp k12) a (List.mem_of_getElem? ha)
            have m12 := k12.at0 m10
            have dr := (dig_rng (b := n) (f := f) (ns := row) hn).1
            refine ⟨_, by wtm_at "u", ?_⟩
            intro s0 H0 c cl fp C'
            clear k10 k79 k11
            wtm_at "w"
            refine vx_tup hr (at_getD 2 (by omega)) ?_
            wtm_at "w"
            refine ite_d (fun _ => ?_) (fun _ => ?_)
            · intro s0 H0 c cl fp C'
              wtm_at "w"
              refine ⟨m, a, n, f, row, rfl, Z.SqL.of' m12, hr, hn, ?_⟩
              refine ⟨_, h12, szl (by rw [List.length_map]; omega), fun H13 k13 h13 => ⟨fs ++ [dig n f row], by rw [h13, List.map_append]; rfl, by simp; omega, ?_, k12.tr1 k13 (.inr nF)⟩⟩
              intro x hx
              rcases List.mem_append.mp hx with z | z
              · exact gf x z
              · rw [List.mem_singleton.mp z]; exact dr
            · exact ⟨fs, h12, by omega, gf, k12⟩
          · rintro H12 ⟨fs, h12, lf, gf, k12⟩
            have b12 := b10.kp k12
            have B12 := k12.at0 hB10
            have L12 := k12.at0 h10
            have P12 := k12.at0 P10
            have k712 : Kp [b] H7 H12 := k10.tr0 k12
            have nbB := b7.nl nB
            clear k10 k12 k11 k79 m10 P10 n10 hB10 h10 b10
            wtm_at "w"
            refine ite_d (fun h0 => ?_) (fun _ => ?_)
            · wtm_at "w"
              refine ⟨b, r, 9, rfl, b12, by decide, fun u H13 u0 u1 k13 b13 => ?_⟩
              have F13 := k13.at1 (b12.neInts h12) h12
              have B13 := k13.at1 (b12.neInts B12) B12
              have L13 := k13.at1 (b12.neInts L12) L12
              have P13 := k13.at1 (b12.neInts P12) P12
              have k713 : Kp [b] H7 H13 := k712.tr1 k13 (.inl (by simp))
              clear k13 k712 h12 B12 L12 P12 b12
              wtm_at "w"
              refine ite_d (fun _ => ?_) (fun _ => ?_)
              · have lf0 : 0 < fs.length := by rw [List.length_map] at h0; omega
                obtain ⟨x, hx⟩ : ∃ x, fs.getLast? = some x := by
                  cases hg : fs.getLast? with
                  | none => rw [List.getLast?_eq_none_iff.mp hg] at lf0; simp at lf0
                  | some x => exact ⟨x, rfl⟩
                have x0 := gf x (List.mem_of_getLast? hx)
                have gv : (fs.map V.int).getLast? = some (.int x) := by rw [List.getLast?_map, hx]; rfl
                wtm_at "w"
                refine vx_lst (Z.SqL.of' F13) (at_getLast gv) ?_
                refine ⟨B13, szl (by rw [List.length_map]; omega), fun HX kX hX => ?_⟩
                wtm_at "w"
                refine ⟨bs ++ [x], _, _, rfl, k713.tr1 kX (.inr nB), b13.kp1 kX nbB, by rw [hX, List.map_append]; rfl, by simp [lb], ?_, kX.at1 nLB L13⟩
                intro x' hx'
                rcases List.mem_append.mp hx' with z | z
                · exact gb x' z
                · rw [List.mem_singleton.mp z]; exact x0
              · wtm_at "w"
                refine ⟨b, r, P, ns, rfl, b13, P13, l0, l1, nn, fun x HY kY bY x0 => ?_⟩
                have BY := kY.at1 (b13.neInts B13) B13
                have LY := kY.at1 (b13.neInts L13) L13
                refine ⟨BY, szl (by rw [List.length_map]; omega), fun HX kX hX => ?_⟩
                wtm_at "w"
                refine ⟨bs ++ [x], _, _, rfl, (k713.tr1 kY (.inl (by simp))).tr1 kX (.inr nB), bY.kp1 kX nbB, by rw [hX, List.map_append]; rfl, by simp [lb], ?_, kX.at1 nLB LY⟩
                intro x' hx'
                rcases List.mem_append.mp hx' with z | z
                · exact gb x' z
                · rw [List.mem_singleton.mp z]; exact x0
            · wtm_at "w"
              refine ⟨b, r, P, ns, rfl, b12, P12, l0, l1, nn, fun x HY kY bY x0 => ?_⟩
              have BY := kY.at1 (b12.neInts B12) B12
              have LY := kY.at1 (b12.neInts L12) L12
              refine ⟨BY, szl (by rw [List.length_map]; omega), fun HX kX hX => ?_⟩
              wtm_at "w"
              refine ⟨bs ++ [x], _, _, rfl, (k712.tr1 kY (.inl (by simp))).tr1 kX (.inr nB), bY.kp1 kX nbB, by rw [hX, List.map_append]; rfl, by simp [lb], ?_, kX.at1 nLB LY⟩
              intro x' hx'
              rcases List.mem_append.mp hx' with z | z
              · exact gb x' z
              · rw [List.mem_singleton.mp z]; exact x0
        · rintro σ' H10 ⟨bs, v1, v2, rfl, k10, b10, hB10, lb, gb, h10⟩
          rw [List.length_map, bkTo_len] at lb
          have m10 := k10.at1 (b7.neInts m7) m7
          have e10 := k10.at1 (b7.neInts e7) e7
          have kH10 := kH7.tr k10 (fun l z => .inl z)
          clear k10 k79 kH7 m7 P7 n7 e7
          wtm_at "w"
          refine vo_mul (cmulL (by decide)) ?_
          wtm_at "w"
          refine ⟨b, r, 3, rfl, b10, by decide, fun u H11 u0 u1 k11 b11 => ?_⟩
          have m11 := k11.at1 (b10.neInts m10) m10
          have e11 := k11.at1 (b10.neInts e10) e10
          have B11 := k11.at1 (b10.neInts hB10) hB10
          have kH11 := kH10.tr1 k11 (.inl (by simp))
          clear k11 kH10 m10 e10 hB10 h10 b10
          wtm_at "w"
          refine ⟨m, E, n, f, es, rfl, Z.SqL.of' m11, Z.SqL.of' e11, by omega, by omega, hn, fun H12 k12 => ?_⟩
          wtm_at "w"
          intro tp H13 k13 _ htp
          have k1113 := k12.tr0 k13
          have B13 := k1113.at0 B11
          have e13 := k1113.at0 e11
          have b13 := b11.kp k1113
          have kH13 := kH11.tr0 k1113
          have htp' : H13 tp = some (.tup (([4, s, N, 3 * N + u, (es.length : Int), rt n f es] : List Int).map V.int)) := by
            rw [List.length_map] at htp; exact htp
          clear htp k12 k13 k1113 kH11 m11 e11 B11 b11
          wtm_at "w"
          refine vc_tupLP (Z.SqL.of' B13) (fun tb H14 k14 htb => ?_)
          refine vo_catP (k14.t _ _ htp') htb (sz_ (by simp; omega)) (fun ra H15 k15 hra => ?_)
          rw [← List.map_append] at hra
          wtm_at "w"
          intro pr H16 k16 npr hpr
          have k1316 := (k14.tr0 k15).tr0 k16
          have l15 : 1 ≤ es.length ∧ es.length ≤ 5 := by omega
          exact q pr (rowH n f s N (3 * N + u) es bs, es) H16 (kH13.tr0 k1316) (b13.kp k1316) ⟨ra, E, hpr, k16.t _ _ hra, k1316.at0 e13, .head s N _ es bs s0 s1 N0 N1 (by omega) l15.1 l15.2 lb pe gb, ((kH13.tr0 k14).tr0 k15).n _ npr, nEH⟩
    wtm_at "go"
    wtm_at "w"
    refine ⟨b, r, 2, rfl, bx, by decide, fun s H1 s0 s1 k1 b1 => ?_⟩
    have m1 := k1.at1 (bx.neInts hm) hm
    have M1 := k1.at1 (bx.neRefs hM) hM
    have P1 := k1.at1 (bx.neInts hP) hP
    have T1 := hT.draw bx k1
    wtm_at "w"
    refine xs_setLc C (by wtm_at "m") (by decide +kernel) rfl (by decide +kernel) ?_
    refine xlc_L (Vs' := ["service", "thing"]) (G' := []) (nm := "thing") (i := 13) (by assumption) ⟨rfl, by decide +kernel, by decide +kernel, rfl, by decide +kernel, by decide⟩ ?_
    wtm_at "w"
    refine ⟨M, _, rfl, Z.SqL.of' M1, fun Mn H2 k2 nMn eMn => ?_⟩
    refine ⟨fun t H' => ∃ as : List Addr, H' Mn = some (.lst (as.map V.ref)) ∧ as.length ≤ t ∧ MineAt X.K H' as ∧ Kp [] H1 H', ⟨[], eMn, Nat.le_refl _, (fun a ha => nomatch ha), k2⟩, ?_, ?_, ?_⟩
    · rintro t H' _ ⟨as, _, _, _, k⟩
      exact Z.SqL.of' (k.at0 M1)
    · rintro t y H3 hy ⟨as, h3, l3, g3, k3⟩
      obtain ⟨p, tt, rfl, hp, ht, a, e, hpp, ha, he, th⟩ := (T1.kp k3).at hy
      have ha := Z.SqT.of' (K := X.K) ha
      have ip : t < ps.length := (List.getElem?_eq_some_iff.mp hp).1
      have tp := th.pos
      refine ⟨_, by wtm_at "u", ?_⟩
      intro s0 H0 c' cl fp C'
      wtm_at "w"
      refine vx_tup ha (at_getD 0 (by omega)) ?_
      wtm_at "w"
      refine ite_d (fun h4 => ?_) (fun _ => ?_)
      · have r6 := th.head_of h4
        wtm_at "w"
        refine vx_tup ha (at_getD 1 (by omega)) ?_
        wtm_at "w"
        refine ite_d (fun _ => ?_) (fun _ => ?_)
        · intro s0 H0 c cl fp C'
          wtm_at "w"
          refine ⟨_, h3, szl (by rw [List.length_map]; omega), fun H4 k4 h4' => ⟨as ++ [a], by rw [h4', List.map_append]; rfl, by simp; omega, ?_, k3.tr1 k4 (.inr nMn)⟩⟩
          intro a' ha'
          rcases List.mem_append.mp ha' with z | z
          · exact g3.kp k4 a' z
          · rw [List.mem_singleton.mp z]; exact ⟨tt.1, k4.tup ha, r6⟩
        · exact ⟨as, h3, by omega, g3, k3⟩
      · wtm_at "w"
        exact ⟨as, h3, by omega, g3, k3⟩
    · rintro H3 ⟨as, h3, l3, g3, k3⟩
      rw [List.length_map] at l3
      have b3 := b1.kp k3
      have m3 := k3.at0 m1
      have P3 := k3.at0 P1
      have kH3 := k1.tr0 k3
      clear k3 k2 k1 eMn hm hM hP m1 M1 P1
      wtm_at "w"
      refine ⟨b, r, 6, rfl, b3, by decide, fun d H4 d0 d1 k4 b4 => ?_⟩
      have m4 := k4.at1 (b3.neInts m3) m3
      have P4 := k4.at1 (b3.neInts P3) P3
      have n4 := k4.at1 (b3.neRefs h3) h3
      have g4 := g3.kp k4
      have kH4 := kH3.tr1 k4 (.inl (by simp))
      wtm_at "w"
      refine ite_d (fun _ => ?_) (fun _ => ?_)
      · wtm_at "w"
        refine ⟨b, r, 9, rfl, b4, by decide, fun u H5 u0 u1 k5 b5 => ?_⟩
        exact ⟨_, by wtm_at "u", xb_nil (rest s Mn as u H5 s0 s1 (by omega) u0 (by omega) (kH4.tr1 k5 (.inl (by simp))) b5 (k5.at1 (b4.neInts m4) m4) (k5.at1 (b4.neInts P4) P4) (k5.at1 (b4.neRefs n4) n4) (g4.kp k5))⟩
      · exact xb_nil (rest s Mn as _ H4 s0 s1 (by omega) (by omega) (by rw [List.length_map]; omega) kH4 b4 m4 P4 n4 g4)
end
/-! _law_thingP -/
section
local macro_rules | `(tactic| wtm_at "d") => `(tactic| first | ((with_reducible show Z.XE _ (PySem.Expr.Call (PySem.Expr.Name "len" _) (_ :: _) [] _) _ _ _); refine Z.xe_callB (id := "len") (by assumption) (by wtm_at "m") T.b_len (by decide +kernel) ?_) | ((with_reducible show Z.XE _ (PySem.Expr.Call (PySem.Expr.Name "tuple" _) (_ :: _) [] _) _ _ _); refine Z.xe_callTy (id := "tuple") (by assumption) (by wtm_at "m") T.b_tuple (by decide +kernel) ?_) | ((with_reducible show Z.XE _ (PySem.Expr.Name "tuple" _) _ _ _); refine Z.xe_ty (id := "tuple") (by assumption) (by wtm_at "m") T.b_tuple (by decide +kernel) ?_) | ((with_reducible show Z.XE _ (PySem.Expr.Call (PySem.Expr.Name "_law_draw" _) (_ :: _) [] _) _ _ _); refine Z.xe_call (by assumption) (Law.ok__law_draw T) (by wtm_at "m") (by omega) ?_) | ((with_reducible show Z.XE _ (PySem.Expr.Call (PySem.Expr.Name "_law_pool" _) (_ :: _) [] _) _ _ _); refine Z.xe_call (by assumption) (Law.ok__law_pool T) (by wtm_at "m") (by omega) ?_) | ((with_reducible show Z.XE _ (PySem.Expr.Call (PySem.Expr.Name "_law_pick" _) (_ :: _) [] _) _ _ _); refine Z.xe_call (by assumption) (Law.ok__law_pick T) (by wtm_at "m") (by omega) ?_) | ((with_reducible show Z.XE _ (PySem.Expr.Call (PySem.Expr.Name "_law_head" _) (_ :: _) [] _) _ _ _); refine Z.xe_call (by assumption) (Law.ok__law_head T) (by wtm_at "m") (by omega) ?_) | fail)
def sp_thing (K : PySem.W.Frag) : Sp := fun vs H Q _ => ∃ (b r m M : Addr) (n f : Int) (ps : List Addr) (ts : List (List Int × List Int)), vs = [.ref b, .ref m, .ref M] ∧ Box H b r ∧ H m = some (.lst ([n, f].map V.int)) ∧ 0 < n ∧ H M = some (.lst (ps.map V.ref)) ∧ ThsAt K H n f ps ts ∧ ps.length ≤ 60 ∧
  ∀ (p : Addr) (t : List Int × List Int) H', Kp [b] H H' → Box H' b r → ThNew K H H' n f p t → Q (.ref p) H'
theorem ok__law_thing (T : Txt P w K mg base) : DefOk P w K mg base "_law_thing" ["box", "mix", "things"] 14 (sp_thing K) := by
  refine DefOk.by T.d__law_thing sc__law_thing oc__law_thing (fun vs H Q E h => ?_) (fun X e1 e2 e3 e4 e5 C H vs Q E h => ?_)
  · obtain ⟨b, r, m, M, n, f, ps, ts, rfl, _⟩ := h; rfl
  · obtain ⟨b, r, m, M, n, f, ps, ts, rfl, bx, hm, hn, hM, hT, lp, q⟩ := h
    wtm_at "go"
    wtm_at "w"
    refine ⟨b, r, m, M, n, f, ps, ts, rfl, bx, hm, hn, hM, hT, by omega, fun N ns H1 k1 b1 nN hN l0 l1 nn => ?_⟩
    have m1 := k1.at1 (bx.neInts hm) hm
    have M1 := k1.at1 (bx.neRefs hM) hM
    have T1 := hT.draw bx k1
    clear hm hM hT bx
    wtm_at "w"
    refine ⟨b, r, 9, rfl, b1, by decide, fun kd H2 kd0 kd1 k2 b2 => ?_⟩
    have m2 := k2.at1 (b1.neInts m1) m1
    have M2 := k2.at1 (b1.neRefs M1) M1
    have N2 := k2.at1 (b1.neInts hN) hN
    have T2 := T1.draw b1 k2
    have kH2 : Kp [b] H H2 := k1.tr1 k2 (.inl (by simp))
    clear k1 k2 m1 M1 T1 hN b1
    wtm_at "w"
    refine ite_d (fun _ => ?_) (fun _ => ?_)
    · wtm_at "w"
      refine ⟨b, r, 20, rfl, b2, by decide, fun h H3 h0 h1 k3 b3 => ?_⟩
      wtm_at "w"
      refine ⟨b, r, 840, rfl, b3, by decide, fun v H4 v0 v1 k4 b4 => ?_⟩
      have kH4 := (kH2.tr1 k3 (.inl (by simp))).tr1 k4 (.inl (by simp))
      clear k3 k4 kH2
      wtm_at "w"
      intro tp H5 k5 _ htp
      wtm_at "w"
      intro e H6 k6 ne he
      wtm_at "w"
      intro pr H7 k7 npr hpr
      exact q pr (rowB h v, []) H7 (((kH4.tr0 k5).tr0 k6).tr0 k7) (((b4.kp k5).kp k6).kp k7) ⟨tp, e, hpr, k7.t _ _ (k6.t _ _ htp), k7.at0 he, .beacon h v h0 v0, ((kH4.tr0 k5).tr0 k6).n _ npr, (kH4.tr0 k5).n _ ne⟩
    · wtm_at "w"
      refine ite_d (fun _ => ?_) (fun _ => ?_)
      · wtm_at "w"
        refine xs_setLc C (by wtm_at "m") (by decide +kernel) rfl (by decide +kernel) ?_
        refine xlc_R1 (Vs' := ["box", "numbers", "k"]) (G' := ["_law_pick"]) (nm := "k") (i := 7) (by assumption) ⟨rfl, by decide +kernel, by decide +kernel, rfl, by decide +kernel, by decide⟩ (by wtm_at "m") T.b_range ?_
        wtm_at "w"
        refine ⟨b, r, 4, rfl, b2, by decide, fun c H3 c0 c1 k3 b3 => ?_⟩
        have N3 := k3.at1 (b2.neInts N2) N2
        have kH3 := kH2.tr1 k3 (.inl (by simp))
        clear k3 kH2 m2 M2 T2 N2 b2
        wtm_at "w"
        refine ⟨_, rfl, by omega, by omega, fun L H4 k4 nL eL => ?_⟩
        have nbN := b3.neInts N3
        have nNL : N ≠ L := ne_of_none N3 nL
        refine ⟨fun t H' => LcI (fun x => 0 ≤ x) H4 b r L t H', .start b3 k4 nL eL, ?_, ?_⟩
        · rintro t H5 ht I5
          refine ⟨_, by wtm_at "u", ?_⟩
          intro s0 H0 c' cl fp C'
          have N5 : H5 N = some (.lst (ns.map V.int)) := I5.2.1.at (by simp [nbN, nNL]) (k4.at0 N3)
          wtm_at "w"
          refine ⟨b, r, N, ns, rfl, I5.2.2.1, N5, l0, by omega, nn, fun x H8 k8 b8 x0 => ?_⟩
          obtain ⟨acc, a1, a2, nt, rfl, a3, a4, a5⟩ := I5.sz (by omega) k8
          exact ⟨_, a1, a2, fun H9 k9 e9 => I5.push a4 a5 k8 b8 x0 k9 e9⟩
        · rintro H5 I5
          have kk := I5.kp k4 nL
          obtain ⟨_, _, b5, cs, hc5, lc, pc⟩ := I5
          have kH5 := kH3.tr kk (fun l z => .inl z)
          clear kk k4 kH3 N3 b3
          wtm_at "w"
          refine xs_setLc C (by wtm_at "m") (by decide +kernel) rfl (by decide +kernel) ?_
          refine xlc_R1 (Vs' := ["box", "k"]) (G' := ["_law_draw"]) (nm := "k") (i := 7) (by assumption) ⟨rfl, by decide +kernel, by decide +kernel, rfl, by decide +kernel, by decide⟩ (by wtm_at "m") T.b_range ?_
          wtm_at "w"
          refine ⟨b, r, 3, rfl, b5, by decide, fun d H6 d0 d1 k6 b6 => ?_⟩
          have hc6 := k6.at1 (b5.neInts hc5) hc5
          have kH6 := kH5.tr1 k6 (.inl (by simp))
          clear k6 kH5 hc5 b5
          wtm_at "w"
          refine ⟨_, rfl, by omega, by omega, fun B H7 k7 nB eB => ?_⟩
          have nbL := b6.neInts hc6
          have nLB : L ≠ B := ne_of_none hc6 nB
          refine ⟨fun t H' => LcI (fun x => 0 ≤ x) H7 b r B t H', .start b6 k7 nB eB, ?_, ?_⟩
          · rintro t H8 ht I8
            refine ⟨_, by wtm_at "u", ?_⟩
            intro s0 H0 c' cl fp C'
            wtm_at "w"
            refine ⟨b, r, 840, rfl, I8.2.2.1, by decide, fun x H9 x0 x1 k9 b9 => ?_⟩
            obtain ⟨acc, a1, a2, nt, rfl, a3, a4, a5⟩ := I8.sz (by omega) k9
            exact ⟨_, a1, a2, fun H10 k10 e10 => I8.push a4 a5 k9 b9 x0 k10 e10⟩
          · rintro H8 I8
            have kk := I8.kp k7 nB
            obtain ⟨_, _, b8, bs, hb8, lb, pb⟩ := I8
            have hc8 := kk.at1 nbL hc6
            have kH8 := kH6.tr kk (fun l z => .inl z)
            clear kk k7 kH6 hc6 b6
            have lc3 : cs.length ≤ 3 := by omega
            have lb2 : bs.length ≤ 2 := by omega
            wtm_at "w"
            intro tp H9 k9 _ htp
            have htp' : H9 tp = some (.tup (([2, (cs.length : Int)] : List Int).map V.int)) := by
              rw [List.length_map] at htp; exact htp
            have hc9 := k9.at0 hc8
            have hb9 := k9.at0 hb8
            have b9 := b8.kp k9
            have kH9 := kH8.tr0 k9
            clear htp k9 kH8 hc8 hb8 b8
            wtm_at "w"
            refine vc_tupLP (Z.SqL.of' hc9) (fun tc H10 k10 htc => ?_)
            refine vo_catP (k10.t _ _ htp') htc (sz_ (by simp; omega)) (fun t1 H11 k11 h1 => ?_)
            rw [← List.map_append] at h1
            have hb11 := k11.at0 (k10.at0 hb9)
            have b11 := (b9.kp k10).kp k11
            have kH11 := (kH9.tr0 k10).tr0 k11
            clear k10 k11 kH9 hb9 b9 htp' htc hc9
            wtm_at "w"
            refine vc_tupLP (Z.SqL.of' hb11) (fun tb H12 k12 htb => ?_)
            refine vo_catP (k12.t _ _ h1) htb (sz_ (by simp; omega)) (fun t2 H13 k13 h2 => ?_)
            rw [← List.map_append] at h2
            have b13 := (b11.kp k12).kp k13
            have kH13 := (kH11.tr0 k12).tr0 k13
            clear k12 k13 kH11 hb11 b11 htb h1
            wtm_at "w"
            intro e H14 k14 ne he
            wtm_at "w"
            intro pr H15 k15 npr hpr
            exact q pr (rowD cs bs, []) H15 ((kH13.tr0 k14).tr0 k15) ((b13.kp k14).kp k15) ⟨t2, e, hpr, k15.t _ _ (k14.t _ _ h2), k15.at0 he, .doc cs bs lc3 lb2 pc pb, (kH13.tr0 k14).n _ npr, kH13.n _ ne⟩
      · wtm_at "w"
        refine ite_d (fun _ => ?_) (fun _ => ?_)
        · wtm_at "w"
          refine ⟨b, r, N, ns, rfl, b2, N2, l0, by omega, nn, fun x H3 k3 b3 x0 => ?_⟩
          have kH3 := kH2.tr1 k3 (.inl (by simp))
          clear k3 kH2 m2 M2 T2 N2 b2
          wtm_at "w"
          intro tp H5 k5 _ htp
          wtm_at "w"
          intro e H6 k6 ne he
          wtm_at "w"
          intro pr H7 k7 npr hpr
          exact q pr (rowR x, []) H7 (((kH3.tr0 k5).tr0 k6).tr0 k7) (((b3.kp k5).kp k6).kp k7) ⟨tp, e, hpr, k7.t _ _ (k6.t _ _ htp), k7.at0 he, .renew x x0, ((kH3.tr0 k5).tr0 k6).n _ npr, (kH3.tr0 k5).n _ ne⟩
        · wtm_at "w"
          refine ⟨b, r, m, M, N, n, f, ps, ts, ns, rfl, b2, m2, hn, M2, T2, lp, N2, l0, by omega, nn, fun p t H3 k3 b3 hp => ?_⟩
          obtain ⟨a', e', g1, g2, g3, g4, g5, g6⟩ := hp
          exact q p t H3 (kH2.tr k3 (fun l z => .inl z)) b3 ⟨a', e', g1, g2, g3, g4, kH2.n _ g5, kH2.n _ g6⟩
end
/-! _law_thingsP -/
section
local macro_rules | `(tactic| wtm_at "d") => `(tactic| first | ((with_reducible show Z.XE _ (PySem.Expr.Call (PySem.Expr.Name "_law_thing" _) (_ :: _) [] _) _ _ _); refine Z.xe_call (by assumption) (Law.ok__law_thing T) (by wtm_at "m") (by omega) ?_) | fail)
def sp_things (K : PySem.W.Frag) : Sp := fun vs H Q _ => ∃ (b r m : Addr) (n f : Int) (k : Nat), vs = [.ref b, .ref m, .int k] ∧ Box H b r ∧ H m = some (.lst ([n, f].map V.int)) ∧ 0 < n ∧ k ≤ 60 ∧
  ∀ (M : Addr) (ps : List Addr) (ts : List (List Int × List Int)) H', Kp [b] H H' → Box H' b r → H M = none → H' M = some (.lst (ps.map V.ref)) → ThsAt K H' n f ps ts → ps.length = k → Q (.ref M) H'
theorem ok__law_things (T : Txt P w K mg base) : DefOk P w K mg base "_law_things" ["box", "mix", "many"] 15 (sp_things K) := by
  refine DefOk.by T.d__law_things sc__law_things oc__law_things (fun vs H Q E h => ?_) (fun X e1 e2 e3 e4 e5 C H vs Q E h => ?_)
  · obtain ⟨b, r, m, n, f, k, rfl, _⟩ := h; rfl
  · obtain ⟨b, r, m, n, f, k, rfl, bx, hm, hn, hk, q⟩ := h
    wtm_at "go"
    wtm_at "w"
    intro M H1 k1 nM hM
    wtm_at "w"
    refine xs_forR1 (by assumption) (by wtm_at "m") T.b_range ?_
    wtm_at "w"
    refine ⟨_, rfl, by omega, by omega, fun i σ H' => ∃ (ps : List Addr) (ts : List (List Int × List Int)) (v : Option V), σ = [some (.ref b), some (.ref m), some (.int k), some (.ref M), v] ∧ Kp [b] H H' ∧ Box H' b r ∧ H' M = some (.lst (ps.map V.ref)) ∧ ThsAv X.K H' n f M ps ts ∧ ps.length = i, ⟨[], [], none, rfl, (Kp.refl [b] H).tr0 k1, bx.kp k1, hM, .nil, rfl⟩, ?_, ?_⟩
    · rintro i σ' H2 hi ⟨ps, ts, v, rfl, k2, b2, hM2, T2, l2⟩
      have hi' : i < k := hi
      have m2 := k2.at1 (bx.neInts hm) hm
      clear k1
      wtm_at "w"
      refine ⟨b, r, m, M, n, f, ps, ts, rfl, b2, m2, hn, hM2, T2.at, by omega, fun p t H3 k3 b3 hp => ?_⟩
      have M3 := k3.at1 (b2.neRefs hM2) hM2
      have T3 := T2.draw b2 k3
      have rM : r ≠ M := (bx.nl nM).2
      refine ⟨M3, szl (by rw [List.length_map]; omega), fun H4 k4 h4 => ?_⟩
      wtm_at "w"
      have nbM := b2.neRefs hM2
      obtain ⟨bi, bns, hb3, bi0, hr3⟩ := b3
      have b4 : Box H4 b r := ⟨bi, bns, k4.at1 (Ne.symm nbM) hb3, bi0, k4.at1 rM hr3⟩
      exact ⟨ps ++ [p], ts ++ [t], _, rfl, (k2.tr k3 (fun l z => .inl z)).tr1 k4 (.inr nM), b4, by rw [h4, List.map_append]; rfl, (T3.set k4).snoc ((hp.av hM2).set k4), by simp [l2]⟩
    · rintro σ' H2 ⟨ps, ts, v, rfl, k2, b2, hM2, T2, l2⟩
      wtm_at "w"
      exact q M ps ts H2 k2 b2 nM hM2 T2.at l2
end
/-! dicts -/
/-! dicts with numbers for keys; least and greatest -/
section
variable {X : Cx} {σ : St} {H : Hp} {Q : VK} {N Vs Ls G : List Str} {k : Nat} {sc : Scope} {a b e o i : Expr} {pos p1 : Pos} {R : Bool → Hp → Prop} {D : B3} {nx : St → Hp → Prop}
theorem xe_dget (C : Ctx X sc N Vs Ls G k) (h : XE X a σ H fun x H1 => XE X b σ H1 fun y H2 => ∃ p v, x = .ref p ∧ DGet H2 p y (some v) ∧ Q v H2) (hs : NoSl b := by exact fun _ _ => rfl) : XE X (.Subscript a b pos) σ H Q := ⟨_, pe_dget C.hu XE.pe XE.pe hs, h⟩
theorem ix_dict (hu : X.A.units + 1 < cLine) : IxR X (fun x y H Q => ∃ a v, x = .ref a ∧ DGet H a y (some v) ∧ Q v H) := by
  intro ve se pins s0 σ0 H0 x0 y0 v0 u0 Q0 I0 rx ry h hs
  obtain ⟨a, r, rfl, g, q⟩ := h
  have ev : v0 = .ref a := rx
  subst ev
  exact PyProof.Rows.tail_any (dict_typeIs I0 g) PySem.F.slot_dict_getitem.lookup (d_getItem hu I0 g ry fun _ _ I3 e3 => ⟨r, H0, I3, e3, q⟩) hs
theorem vx_dict {p : Addr} {y v : V} (C : Ctx X sc N Vs Ls G k) (g : DGet H p y (some v)) (q : Q v H) : VX X (.ref p) y H Q := ⟨_, ix_dict C.hu, p, v, rfl, g, q⟩
theorem xt_dnotin (C : Ctx X sc N Vs Ls G k) (h : XE X a σ H fun y H1 => XE X b σ H1 fun x H2 => ∃ p o, x = .ref p ∧ DGet H2 p y o ∧ R (!o.isSome) H2) (hb : behindInMarks .NotIn b = false := by rfl) : XT X (.Compare a [.NotIn] [b] pos) σ H R :=
  ⟨_, pt_cmp (pc_dnotin C.hu XE.pe XE.pe) hb, XE.mono h fun y H1 h => XE.mono h fun x H2 ⟨p, o, e1, e2, q⟩ => ⟨p, o, e1, e2, _, rfl, q⟩⟩
theorem xs_dput (C : Ctx X sc N Vs Ls G k) (h : XE X e σ H fun v H1 => XE X o σ H1 fun x H2 => XE X i σ H2 fun y H3 => ∃ (p : Addr) (kvs : List (Key × V)) (kk : Key), x = .ref p ∧ y = kV kk ∧ H3 p = some (.dK kvs) ∧ kvs.length < sizeLine ∧ ∀ H', Kp [p] H3 H' → H' p = some (.dK (putK kvs kk v)) → nx σ H')
    (hs : swapsWith e (some (.Subscript o i p1)) pos.line X.env = pure false := by rfl) : XS X (.Assign [.Subscript o i p1] e pos) nx D σ H :=
  ⟨_, ps_dput C.hu XE.pe XE.pe XE.pe hs, XE.mono h fun v H1 h => XE.mono h fun x H2 h => XE.mono h fun y H3 ⟨p, kvs, kk, e1, e2, e3, e4, q⟩ => ⟨p, _, e1, .inl ⟨kvs, kk, e3, e2, e4, rfl⟩, q _ (Kp.set e3 rfl) upd_same⟩⟩
theorem xe_disp1 (h : ∀ p H1, Kp [] H H1 → H p = none → H1 p = some (.dK []) → XE X a σ H1 fun x H2 => XE X b σ H2 fun y H3 => H3 p = some (.dK []) ∧ ∃ kk : Key, x = kV kk ∧ ∀ H4, Kp [p] H3 H4 → H4 p = some (.dK [(kk, y)]) → Q (.ref p) H4) : XE X (.Dict [some a] [b] pos) σ H Q := by
  refine ⟨_, pe_disp (pps_cons XE.pe XE.pe pps_nil) rfl rfl (fun z => by cases z) (by simp), fun p hp => ?_⟩
  show XE X a σ _ _
  refine XE.mono (h p _ (Kp.new hp) hp upd_same) fun x H2 h => ?_
  show XE X b σ _ _
  refine XE.mono h fun y H3 ⟨e, kk, ek, q⟩ => ?_
  exact ⟨e, [(kk, y)], by rw [ek]; rfl, by simp, q _ (Kp.set e rfl) upd_same⟩
theorem vc_min2 {x y : Int} (C : Ctx X sc N Vs Ls G k) (h : Q (.int (if y < x then y else x)) H) : VC X (.builtin "min") [.int x, .int y] H Q := ⟨_, call_min2 C.calm, x, y, rfl, h⟩
theorem vc_max2 {x y : Int} (C : Ctx X sc N Vs Ls G k) (h : Q (.int (if y > x then y else x)) H) : VC X (.builtin "max") [.int x, .int y] H Q := ⟨_, call_max2 C.calm, x, y, rfl, h⟩
theorem vc_minL {p : Addr} {ns : List Int} (C : Ctx X sc N Vs Ls G k) (hx : SqL X.K H p (ns.map V.int)) (h0 : 0 < ns.length) (h : ∀ m, m ∈ ns → (∀ y, y ∈ ns → m ≤ y) → Q (.int m) H) : VC X (.builtin "min") [.ref p] H Q := ⟨_, cr_min C.calm, p, ns, rfl, hx, h0, h⟩
theorem inV_ints {y : Int} : ∀ ns : List Int, inV (.int y) (ns.map V.int) = decide (y ∈ ns)
  | [] => by simp [inV]
  | n :: ns => by
    have ih := inV_ints (y := y) ns
    unfold inV at ih ⊢
    rw [List.map_cons, List.any_cons, ih]
    by_cases e : n = y
    · simp [eqV, e]
    · have : ¬ y = n := fun z => e z.symm
      simp [eqV, e, this]
theorem vo_notInI {p : Addr} {y : Int} {ns : List Int} (hx : SqL X.K H p (ns.map V.int)) (h : Q (.bl (!decide (y ∈ ns))) H) : VO X (compareOp .NotIn) (.int y) (.ref p) H Q :=
  ⟨_, op_notIn_seq, p, _, rfl, .inl hx, rfl, by simp [flatV], by rw [inV_ints]; exact h⟩
end
/-! dicts2 -/
/-! in a dict; lists of a dict, of a range -/
section
variable {X : Cx} {σ : St} {H : Hp} {Q : VK} {N Vs Ls G : List Str} {k : Nat} {sc : Scope} {a : Expr} {pos p1 p2 p3 : Pos}
theorem op_inDct (hu : X.A.units + 1 < cLine) : OpR X (compareOp .In) (fun x y H Q => ∃ a o, y = .ref a ∧ DGet H a x o ∧ Q (.bl o.isSome) H) := by
  intro pins s0 σ0 H x0 y0 v0 u0 Q0 I rx ry h
  obtain ⟨a, o, rfl, g, q⟩ := h
  have eu : u0 = .ref a := ry
  subst eu
  exact d_in hu I g rx fun s3 I3 => ⟨.bl o.isSome, H, I3, rfl, q⟩
theorem op_notInDct (hu : X.A.units + 1 < cLine) : OpR X (compareOp .NotIn) (fun x y H Q => ∃ a o, y = .ref a ∧ DGet H a x o ∧ Q (.bl (!o.isSome)) H) := by
  intro pins s0 σ0 H x0 y0 v0 u0 Q0 I rx ry h
  obtain ⟨a, o, rfl, g, q⟩ := h
  have eu : u0 = .ref a := ry
  subst eu
  exact d_notIn hu I g rx fun s3 I3 => ⟨.bl (!o.isSome), H, I3, rfl, q⟩
theorem vo_inD {p : Addr} {x : V} {o : Option V} (C : Ctx X sc N Vs Ls G k) (g : DGet H p x o) (q : Q (.bl o.isSome) H) : VO X (compareOp .In) x (.ref p) H Q := ⟨_, op_inDct C.hu, p, o, rfl, g, q⟩
theorem vo_notInD {p : Addr} {x : V} {o : Option V} (C : Ctx X sc N Vs Ls G k) (g : DGet H p x o) (q : Q (.bl (!o.isSome)) H) : VO X (compareOp .NotIn) x (.ref p) H Q := ⟨_, op_notInDct C.hu, p, o, rfl, g, q⟩
theorem vc_listD {p : Addr} {kvs : List (Key × V)} (C : Ctx X sc N Vs Ls G k) (hx : H p = some (.dK kvs)) (h : ∀ r H', Kp [] H H' → H r = none → H' r = some (.lst (kvs.map fun kv => kV kv.1)) → Q (.ref r) H') : VC X (.type "list") [.ref p] H Q := ⟨_, call_list_dK C.calm, p, kvs, rfl, hx, new_ h⟩
theorem xe_listRg (C : Ctx X sc N Vs Ls G k) (hg : Mem G "list") (hm : X.mg "list" = none) (hg' : Mem G "range") (hm' : X.mg "range" = none) (h : XE X a σ H fun x H1 => ∃ n, x = .int n ∧ RgOk 0 n ∧ ∀ q H', Kp [] H1 H' → H1 q = none → H' q = some (.lst (rgV 0 n)) → Q (.ref q) H')
    (na : starEach [a] X.env = (false, eval a X.env) :: starEach [] X.env := by rfl) (nb : starEach [Expr.Call (.Name "range" p2) [a] [] p3] X.env = (false, eval (Expr.Call (.Name "range" p2) [a] [] p3) X.env) :: starEach [] X.env := by rfl) : XE X (.Call (.Name "list" p1) [.Call (.Name "range" p2) [a] [] p3] [] pos) σ H Q :=
  ⟨_, pe_listRg C.calm (C.gl hg) hm (prg_1 (C.gl hg') hm' XE.pe na) nb, XE.mono h fun x H1 ⟨n, e, r, q⟩ => ⟨n, e, r, new_ q⟩⟩
end
theorem rgV_ints (n : Int) : rgV 0 n = ((List.range n.toNat).map fun i => ((i : Nat) : Int)).map V.int := by
  unfold rgV
  rw [List.map_map, Int.sub_zero]
  apply List.map_congr_left
  intro i _
  simp
/-! dget1 -/
/-! d.get(k) -/
section
variable {X : Cx} {σ : St} {H : Hp} {Q : VK} {N Vs Ls G : List Str} {k : Nat} {sc : Scope} {e o : Expr} {apos cpos : Pos}
theorem xe_dget1 (C : Ctx X sc N Vs Ls G k) (h : XE X o σ H fun x H1 => ∃ a, x = .ref a ∧ IsD H1 a ∧ XE X e σ H1 fun y H2 => ∃ o, DGet H2 a y o ∧ Q (o.getD .non) H2) (m : M1 X o "get" apos e cpos := by exact ⟨rfl, rfl, rfl, rfl⟩) : XE X (.Call (.Attribute o "get" apos) [e] [] cpos) σ H Q :=
  ⟨_, pe_dget1 C.hu XE.pe XE.pe m, h⟩
end
/-! dget2 -/
section
variable {X : Cx} {σ : L2.St} {H : Hp} {Q : VK} {N Vs Ls G : List Str} {k : Nat} {sc : Scope} {e o f : Expr} {apos cpos : Pos}
theorem xe_dget2 (C : Ctx X sc N Vs Ls G k) (h : XE X o σ H fun x H1 => ∃ a, x = .ref a ∧ IsD H1 a ∧ XE X e σ H1 fun y H2 => XE X f σ H2 fun z H3 => ∃ o, DGet H3 a y o ∧ Q (o.getD z) H3) (m : M2 X o "get" apos e f cpos := by exact ⟨rfl, rfl, rfl, rfl⟩) : XE X (.Call (.Attribute o "get" apos) [e, f] [] cpos) σ H Q :=
  ⟨_, pe_dget2 C.hu XE.pe XE.pe XE.pe m, h⟩
end
/-! keyR -/
/-! rows as keys -/
def keyOf (rs : List Int) : List Key := rs.map .inl
theorem keyOf_kV (rs : List Int) : (keyOf rs).map kV = rs.map V.int := by unfold keyOf; rw [List.map_map]; rfl
theorem keyOf_inj {a b : List Int} (h : keyOf a = keyOf b) : a = b := by
  induction a generalizing b with
  | nil => cases b with
    | nil => rfl
    | cons y b => cases h
  | cons x a ih => cases b with
    | nil => cases h
    | cons y b =>
      have h' := List.cons.inj (show (Sum.inl x : Key) :: keyOf a = Sum.inl y :: keyOf b from h)
      rw [Sum.inl.inj h'.1, ih h'.2]
/-! setdT -/
/-! d.setdefault(row, x), the keys rows -/
section
variable {X : Cx} {pins : List (Addr × Obj)} {σ : L2.St} {H : Hp} {s : Shared} {a b : Addr} {r : Value} {d : V} {k : List Key} {A : Around} {E : Value → Shared → Prop}
theorem d_setdT {kvs : List (List Key × V)} {Q : Value → Shared → Prop} (hu : A.units + 1 < cLine) (I : Inv X pins σ H s) (e : H a = some (.dT kvs)) (eb : H b = some (.tup (k.map kV))) (rd : RelV d r) (hl : kvs.length < sizeLine)
    (h1 : ∀ v, valV kvs k = some v → ∀ (w' : Value) (s' : Shared), Inv X pins σ H s' → RelV v w' → Q w' s') (h2 : valV kvs k = none → ∀ (w' : Value) (s' : Shared), Inv X pins σ (upd H a (.dT (putK kvs k d))) s' → RelV d w' → Q w' s') :
    wpAny (model X.prog X.w) A (call (.builtin "dict.setdefault") [.ref a, .ref b, r]) Q E s := by
  obtain ⟨z, hd, xs, rel, dd⟩ := dt_of I.hok e
  have hz : xs.length ≤ sizeLine := by rw [← Paired.length rel]; exact z
  refine call_setdefault_heap (hsz := hz) (tupleKind_room_in1 hu) (key_of I.hok eb) hd dd (fun p hp => ?_) fun hn h' dd' hs => ?_
  · have q := rel.val k
    rw [hp] at q
    cases q0 : valV kvs k with
    | none => rw [q0] at q; exact (show False from q).elim
    | some v0 => rw [q0] at q; exact h1 v0 q0 _ _ (I.tok _) q
  · have q := rel.val k
    rw [hn] at q
    cases q0 : valV kvs k with
    | some v0 => rw [q0] at q; exact (show False from q).elim
    | none =>
      have hl2 : (putK kvs k d).length ≤ sizeLine := by
        have := length_putK kvs k d
        omega
      obtain ⟨q1, es, ep, hq, g2, g3, g4, _, g5⟩ := dd'
      exact h2 q0 _ _ (d_write (t' := s.toks + (tupleKind (mixKind X.prog X.w)).draws k) I (by rw [e]; exact True.intro) hs ⟨q1, hq⟩ ⟨hl2, hd, _, (rel.put k eb rd).keeps fun c ys ec => (by rw [upd_ne (ne_of ec e (fun z => nomatch z))]; exact ec), q1, es, ep, hq, g2, g3, g4, g5⟩) rd
end
def tDSetdT (td ty tx : TE) : TE := fun σ H Q => td σ H fun x H1 => ∃ a, x = .ref a ∧ IsD H1 a ∧ ty σ H1 fun y H2 => tx σ H2 fun z H3 => ∃ (kvs : List (List Key × V)) (k : List Key) (b : Addr), H3 a = some (.dT kvs) ∧ y = .ref b ∧ H3 b = some (.tup (k.map kV)) ∧ kvs.length < sizeLine ∧
  (∀ v, valV kvs k = some v → Q v H3) ∧ (valV kvs k = none → Q z (upd H3 a (.dT (putK kvs k z))))
section
variable {X : Cx} {o e f : Expr} {td ty tx : TE} {apos cpos : Pos} {σ : L2.St} {H : Hp} {Q : VK} {N Vs Ls G : List Str} {k : Nat} {sc : Scope}
theorem pe_dsetdT (hu : X.A.units + 1 < cLine) (ho : PE X o td) (he : PE X e ty) (hf : PE X f tx) (m : M2 X o "setdefault" apos e f cpos) : PE X (.Call (.Attribute o "setdefault" apos) [e, f] [] cpos) (tDSetdT td ty tx) := by
  refine ⟨fun pins s σ H Q I h => ?_⟩
  refine wpAny_Call_method m.base m.few m.line PySem.F.plainAttrs_dict PySem.F.slot_dict_setdefault PySem.F.type_dict_setdefault (thn (ho.run pins s σ H _ I h) fun u s1 ⟨x, H1, I1, rx, a, ex, d, q1⟩ => ?_)
  subst ex
  obtain rfl : u = Value.ref a := rx
  obtain ⟨t1, t2, _⟩ := isD_at I1 d
  refine ⟨t1, t2, ?_⟩
  rw [m.trees]
  refine Calls.callWith_builtin rfl (Calls.evalArgs_plain (Calls.spliced_cons (thn (he.run pins s1 σ H1 _ I1 q1) fun iv s2 ⟨y, H2, I2, ry, q2⟩ =>
    Calls.spliced_cons (thn (hf.run pins s2 σ H2 _ I2 q2) fun fv s3 ⟨z, H3, I3, rz, kvs, k, b, ea, ey, eb, hl, q3, q4⟩ => Calls.spliced_nil ?_))))
  subst ey
  obtain rfl : iv = Value.ref b := ry
  exact d_setdT hu I3 ea eb rz hl (fun v hv w' s4 I4 rw' => ⟨v, _, I4, rw', q3 v hv⟩) fun hn w' s4 I4 rw' => ⟨z, _, I4, rw', q4 hn⟩
theorem xe_dsetdT (C : Ctx X sc N Vs Ls G k) (h : XE X o σ H fun x H1 => ∃ a, x = .ref a ∧ IsD H1 a ∧ XE X e σ H1 fun y H2 => XE X f σ H2 fun z H3 => ∃ (kvs : List (List Key × V)) (k : List Key) (b : Addr), H3 a = some (.dT kvs) ∧ y = .ref b ∧ H3 b = some (.tup (k.map kV)) ∧ kvs.length < sizeLine ∧
    (∀ v, valV kvs k = some v → Q v H3) ∧ (valV kvs k = none → ∀ H', Kp [a] H3 H' → H' a = some (.dT (putK kvs k z)) → Q z H')) (m : M2 X o "setdefault" apos e f cpos := by exact ⟨rfl, rfl, rfl, rfl⟩) : XE X (.Call (.Attribute o "setdefault" apos) [e, f] [] cpos) σ H Q :=
  ⟨_, pe_dsetdT C.hu XE.pe XE.pe XE.pe m, h.mono fun x H1 ⟨a, e1, d, q⟩ => ⟨a, e1, d, q.mono fun y H2 q => q.mono fun z H3 ⟨kvs, k, b, e2, e3, e4, e5, q1, q2⟩ => ⟨kvs, k, b, e2, e3, e4, e5, q1, fun hn => q2 hn _ (Kp.set e2 rfl) upd_same⟩⟩⟩
end
/-! nb -/
section
local macro_rules | `(tactic| wtm_at "d") => `(tactic| fail)
/-! a notebook -/
theorem putF_putF (f : Str) (v u : V) : ∀ fs : List (Str × V), putF f v (putF f u fs) = putF f v fs
  | [] => by show (if f = f then _ else _) = _; rw [if_pos rfl]; rfl
  | (g, x) :: r => by
    show putF f v (if g = f then (g, u) :: r else (g, x) :: putF f u r) = if g = f then (g, v) :: r else (g, x) :: putF f v r
    by_cases e : g = f
    · rw [if_pos e, if_pos e]; show (if g = f then _ else _) = _; rw [if_pos e]
    · rw [if_neg e, if_neg e]; show (if g = f then _ else _) = _; rw [if_neg e, putF_putF f v u r]
def nbF (m dB dH : Addr) (t : Int) : List (Str × V) := putF "_last_hour" (.int t) (putF "_hours" (.ref dH) (putF "_beacons" (.ref dB) (putF "mixing" (.ref m) [])))
theorem nb_set (m dB dH : Addr) (t u : Int) : putF "_last_hour" (.int u) (nbF m dB dH t) = nbF m dB dH u := putF_putF _ _ _ _
theorem nb_m (m dB dH : Addr) (t : Int) : (nbF m dB dH t).lookup ("mixing" : Str) = some (.ref m) := by
  unfold nbF; rw [lookup_putF, if_neg (by decide +kernel), lookup_putF, if_neg (by decide +kernel), lookup_putF, if_neg (by decide +kernel), lookup_putF, if_pos rfl]
theorem nb_b (m dB dH : Addr) (t : Int) : (nbF m dB dH t).lookup ("_beacons" : Str) = some (.ref dB) := by
  unfold nbF; rw [lookup_putF, if_neg (by decide +kernel), lookup_putF, if_neg (by decide +kernel), lookup_putF, if_pos rfl]
theorem nb_h (m dB dH : Addr) (t : Int) : (nbF m dB dH t).lookup ("_hours" : Str) = some (.ref dH) := by
  unfold nbF; rw [lookup_putF, if_neg (by decide +kernel), lookup_putF, if_pos rfl]
theorem nb_l (m dB dH : Addr) (t : Int) : (nbF m dB dH t).lookup ("_last_hour" : Str) = some (.int t) := by
  unfold nbF; rw [lookup_putF, if_pos rfl]
theorem nb_no (m dB dH : Addr) (t : Int) {x : Str} (h1 : ¬ x = ("mixing" : Str)) (h2 : ¬ x = ("_beacons" : Str)) (h3 : ¬ x = ("_hours" : Str)) (h4 : ¬ x = ("_last_hour" : Str)) : (nbF m dB dH t).lookup x = none := by
  unfold nbF; rw [lookup_putF, if_neg h4, lookup_putF, if_neg h3, lookup_putF, if_neg h2, lookup_putF, if_neg h1]; rfl
def lkR : List (List Int × Int) → List Int → Option Int
  | [], _ => none
  | p :: r, x => if p.1 = x then some p.2 else lkR r x
def kvH (hs : List (List Int × Int)) : List (List Key × V) := hs.map fun p => (keyOf p.1, .int p.2)
theorem valV_kvH (x : List Int) : ∀ hs : List (List Int × Int), valV (kvH hs) (keyOf x) = (lkR hs x).map V.int
  | [] => rfl
  | p :: r => by
    rw [lkR]
    show valV ((keyOf p.1, V.int p.2) :: kvH r) (keyOf x) = _
    by_cases e : p.1 = x
    · rw [if_pos e, valV_pos (by rw [e])]; rfl
    · rw [if_neg e, valV_neg (fun z => e (keyOf_inj z)), valV_kvH x r]
/-- the first hour of a row counts -/
def seeR (hs : List (List Int × Int)) (x : List Int) (h : Int) : List (List Int × Int) := if lkR hs x = none then hs ++ [(x, h)] else hs
theorem seeR_len (hs : List (List Int × Int)) (x : List Int) (h : Int) : (seeR hs x h).length ≤ hs.length + 1 := by unfold seeR; split <;> simp
theorem kvH_app (hs : List (List Int × Int)) (x : List Int) (h : Int) : kvH (hs ++ [(x, h)]) = kvH hs ++ [(keyOf x, .int h)] := by unfold kvH; rw [List.map_append]; rfl
structure NbAt (CN CM : Addr) (H : Hp) (a dx mx dB dH : Addr) (t n f : Int) (bs : List (List Int)) (hs : List (List Int × Int)) : Prop where
  ha : H a = some (.ins CN dx (nbF mx dB dH t))
  hx : Mx CM H mx n f
  hB : ∃ kb, H dB = some (.dT kb) ∧ kb.length ≤ bs.length ∧ ∀ r, (valV kb (keyOf r)).isSome = decide (r ∈ bs)
  hH : H dH = some (.dT (kvH hs))
  ne : dB ≠ dH
  ma : mx ≠ a
section
variable {CN CM a dx mx dB dH b r : Addr} {H H' : Hp} {t n f : Int} {bs : List (List Int)} {hs : List (List Int × Int)}
instance : Car H H' (NbAt CN CM H a dx mx dB dH t n f bs hs) (NbAt CN CM H' a dx mx dB dH t n f bs hs) := ⟨fun k nn h => ⟨k.atN nn h.ha, (by obtain ⟨d, e⟩ := h.hx; exact ⟨d, k.atN nn e⟩), (by obtain ⟨kb, e, r⟩ := h.hB; exact ⟨kb, k.atN nn e, r⟩), k.atN nn h.hH, h.ne, h.ma⟩⟩
instance : CarB b r H H' (NbAt CN CM H a dx mx dB dH t n f bs hs) (NbAt CN CM H' a dx mx dB dH t n f bs hs) := ⟨fun bx k h => ⟨bx.other k (fun _ z => nomatch z) h.ha, h.hx.box bx k, (by obtain ⟨kb, e, r⟩ := h.hB; exact ⟨kb, bx.other k (fun _ z => nomatch z) e, r⟩), bx.other k (fun _ z => nomatch z) h.hH, h.ne, h.ma⟩⟩
end
def sp_Notebook (C : Addr) : Sp := fun vs H Q _ => ∃ (z dx m : Addr), vs = [.ref z, .ref m] ∧ H z = some (.ins C dx []) ∧ ∀ dB dH H', Kp [z] H H' → H' z = some (.ins C dx (nbF m dB dH 0)) → H' dB = some (.dT []) → H' dH = some (.dT []) → dB ≠ dH → H dB = none → H dH = none → Q .non H'
theorem ok_Notebook (T : Txt P w K mg base) : ClsOk P w K mg base "Notebook" T.C_Notebook ["self", "mixing"] 1 (sp_Notebook T.C_Notebook) := by
  obtain ⟨f, fd, M, F, b⟩ := T.mk_Notebook
  refine ⟨f, fd, fnOk_by F sc_Notebook___init__ oc_Notebook___init__ (fun vs H Q E h => ?_) (fun X e1 e2 e3 e4 e5 C H vs Q E h => ?_), T.mg_Notebook, M, b⟩
  · obtain ⟨z, dx, m, rfl, _⟩ := h; rfl
  · obtain ⟨z, dx, m, rfl, h1, q⟩ := h
    wtm_at "go"
    refine xs_fld ?_
    wtm_at "w"
    refine ⟨z, _, dx, _, rfl, h1, T.cl_Notebook, T.na_Notebook_mixing, by decide, fun H1 k1 e1 => ?_⟩
    wtm_at "w"
    refine xs_fld ?_
    refine xe_dnewT (fun dB H2 k2 nB hB => ?_)
    wtm_at "w"
    refine ⟨z, _, dx, _, rfl, k2.at0 e1, T.cl_Notebook, T.na_Notebook__beacons, by show 1 < 1000; decide, fun H3 k3 e3 => ?_⟩
    have zB : z ≠ dB := ne_of_none e1 nB
    have hB3 := k3.at1 (Ne.symm zB) hB
    wtm_at "w"
    refine xs_fld ?_
    refine xe_dnewT (fun dH H4 k4 nH hH => ?_)
    wtm_at "w"
    refine ⟨z, _, dx, _, rfl, k4.at0 e3, T.cl_Notebook, T.na_Notebook__hours, by show 2 < 1000; decide, fun H5 k5 e5 => ?_⟩
    have zH : z ≠ dH := ne_of_none e3 nH
    have BH : dB ≠ dH := ne_of_none hB3 nH
    wtm_at "w"
    refine xs_fld ?_
    wtm_at "w"
    refine ⟨z, _, dx, _, rfl, e5, T.cl_Notebook, T.na_Notebook__last_hour, by show 3 < 1000; decide, fun H6 k6 e6 => ?_⟩
    wtm_at "w"
    have kz : Kp [z] H H3 := (k1.tr0 k2).tr1 k3 (.inl (by simp))
    have kz5 : Kp [z] H H5 := (kz.tr0 k4).tr1 k5 (.inl (by simp))
    exact q dB dH H6 (kz5.tr1 k6 (.inl (by simp))) e6 (k6.at1 (Ne.symm zB) (k5.at1 (Ne.symm zB) (k4.at0 hB3))) (k6.at1 (Ne.symm zH) (k5.at1 (Ne.symm zH) hH)) BH (k1.n _ nB) (kz.n _ nH)
end
/-! nb_meths -/
section
local macro_rules | `(tactic| wtm_at "d") => `(tactic| first | ((with_reducible show Z.XE _ (PySem.Expr.Name "BEACON" _) _ _ _); refine Z.xe_glob (v := L2.V.int 1) (by assumption) (by wtm_at "m") T.c_BEACON.choose_spec ⟨_, rfl⟩ ?_) | ((with_reducible show Z.XE _ (PySem.Expr.Name "HEAD" _) _ _ _); refine Z.xe_glob (v := L2.V.int 4) (by assumption) (by wtm_at "m") T.c_HEAD.choose_spec ⟨_, rfl⟩ ?_) | ((with_reducible show Z.XE _ (PySem.Expr.Call (PySem.Expr.Name "is_thing_of" _) (_ :: _) [] _) _ _ _); refine Z.xe_call (by assumption) (Law.ok_is_thing_of T) (by wtm_at "m") (by omega) ?_) | fail)
theorem ok_NotebookError (T : Txt P w K mg base) : ErrOk P w K mg base "NotebookError" T.E_NotebookError ["self", "reason"] 1 (sp_err1 T.E_NotebookError "reason") := by
  obtain ⟨f, fd, iC, tI, F, b⟩ := T.i_NotebookError
  refine ⟨f, fd, fnOk_by F sc_NotebookError___init__ oc_NotebookError___init__ (fun vs H Q E h => ?_) (fun X e1 e2 e3 e4 e5 C H vs Q E h => ?_), T.mg_NotebookError, iC, tI, b⟩
  · obtain ⟨a, v, rfl, _⟩ := h; rfl
  · obtain ⟨a, v, rfl, h1, q⟩ := h
    wtm_at "go"
    refine xs_ost ?_
    wtm_at "w"
    refine ⟨a, _, rfl, T.ec_NotebookError.ox, T.nf_NotebookError_reason, .inl ⟨h1, fun dx hdx ne => ?_⟩⟩
    wtm_at "w"
    exact q dx hdx ne
def whyV : Option Str → V
  | none => .non
  | some w => .str w
def noteWhy (rs : List Int) : Option Str := if (isThing rs && decide (rs.getD 0 0 = 1)) = true then none else some ("not a beacon" : Str)
def seeWhy (rs : List Int) (h t : Int) : Option Str := if (isThing rs && decide (rs.getD 0 0 = 4)) = true then (if h < t then some ("hour" : Str) else none) else some ("not a head" : Str)
def sp_note (CN CM CE : Addr) : Sp := fun vs H Q E => ∃ (a p dx mx dB dH : Addr) (t n f : Int) (bs : List (List Int)) (hs : List (List Int × Int)) (rs : List Int), vs = [.ref a, .ref p] ∧ NbAt CN CM H a dx mx dB dH t n f bs hs ∧ H p = some (.tup (rs.map V.int)) ∧ bs.length ≤ 5000 ∧
  (∀ w, noteWhy rs = some w → ∀ d H', Kp [] H H' → H d = none → H' d = some (.xd [("reason", .str w)]) → E (.ref CE) (some d) H') ∧
  (noteWhy rs = none → ∀ H', Kp [dB] H H' → NbAt CN CM H' a dx mx dB dH t n f (bs ++ [rs]) hs → Q .non H')
theorem ok_note (T : Txt P w K mg base) : MetOkX P w K mg base T.C_Notebook "note" ["self", "row"] 6 (sp_note T.C_Notebook T.C_Mixing T.E_NotebookError) := by
  obtain ⟨fn, fd, M, F, bi⟩ := T.m_Notebook_note
  refine ⟨fn, fd, fnOk_byX F sc_Notebook_note oc_Notebook_note (fun vs H Q E h => ?_) (fun X e1 e2 e3 e4 e5 C Tp H vs Q E tk h => ?_), M, bi⟩
  · obtain ⟨a, p, dx, mx, dB, dH, t, n, f, bs, hs, rs, rfl, _⟩ := h; rfl
  · obtain ⟨a, p, dx, mx, dB, dH, t, n, f, bs, hs, rs, rfl, nb, hp, lb, qE, qA⟩ := h
    have w0 : noteWhy rs = if (isThing rs && decide (rs.getD 0 0 = 1)) = true then none else some ("not a beacon" : Str) := rfl
    wtm_at "go"
    wtm_at "w"
    refine ⟨p, rs, 1, rfl, Z.SqT.of' hp, ?_⟩
    cases hg : (isThing rs && decide (rs.getD 0 0 = 1)) with
    | false =>
      rw [hg] at w0
      wtm_at "w"
      refine xs_raise1 C (ok_NotebookError T) T.ec_NotebookError tk (by wtm_at "m") (by omega) ?_
      refine xe_str ?_
      exact fun d H' k hd hx => qE "not a beacon" w0 d H' k hd hx
    | true =>
      rw [hg, if_pos rfl] at w0
      obtain ⟨kb, hB, lk, hk⟩ := nb.hB
      wtm_at "w"
      refine xs_dputT C ?_
      wtm_at "w"
      refine xe_fld ?_
      wtm_at "w"
      refine ⟨a, _, dx, _, _, rfl, nb.ha, T.cl_Notebook, T.na_Notebook__beacons, nb_b mx dB dH t, ?_⟩
      wtm_at "w"
      refine ⟨dB, p, kb, keyOf rs, rfl, rfl, hB, by rw [keyOf_kV]; exact hp, szl (by omega), fun H1 k1 h1 => ?_⟩
      wtm_at "w"
      refine qA w0 H1 k1 ⟨k1.at1 (ne_of nb.ha hB (by intro z; cases z)) nb.ha, ?_, ⟨_, h1, ?_, fun r => ?_⟩, k1.at1 (Ne.symm nb.ne) nb.hH, nb.ne, nb.ma⟩
      · obtain ⟨d, e⟩ := nb.hx
        exact ⟨d, k1.at1 (ne_of e hB (by intro z; cases z)) e⟩
      · have := length_putK kb (keyOf rs) (.bl true)
        rw [List.length_append]; simp; omega
      · rw [valV_put]
        by_cases e : r = rs
        · rw [if_pos (by rw [e])]; simp [e]
        · rw [if_neg (fun z => e (keyOf_inj z)), hk r]; simp [e]
def sp_see (CN CM CE : Addr) : Sp := fun vs H Q E => ∃ (a p dx mx dB dH : Addr) (t n f h : Int) (bs : List (List Int)) (hs : List (List Int × Int)) (rs : List Int), vs = [.ref a, .ref p, .int h] ∧ NbAt CN CM H a dx mx dB dH t n f bs hs ∧ H p = some (.tup (rs.map V.int)) ∧ hs.length ≤ 5000 ∧
  (∀ w, seeWhy rs h t = some w → ∀ d H', Kp [] H H' → H d = none → H' d = some (.xd [("reason", .str w)]) → E (.ref CE) (some d) H') ∧
  (seeWhy rs h t = none → ∀ H', Kp [a, dH] H H' → NbAt CN CM H' a dx mx dB dH h n f bs (seeR hs rs h) → Q .non H')
theorem ok_see (T : Txt P w K mg base) : MetOkX P w K mg base T.C_Notebook "see" ["self", "row", "hour"] 6 (sp_see T.C_Notebook T.C_Mixing T.E_NotebookError) := by
  obtain ⟨fn, fd, M, F, bi⟩ := T.m_Notebook_see
  refine ⟨fn, fd, fnOk_byX F sc_Notebook_see oc_Notebook_see (fun vs H Q E h => ?_) (fun X e1 e2 e3 e4 e5 C Tp H vs Q E tk h => ?_), M, bi⟩
  · obtain ⟨a, p, dx, mx, dB, dH, t, n, f, h, bs, hs, rs, rfl, _⟩ := h; rfl
  · obtain ⟨a, p, dx, mx, dB, dH, t, n, f, h, bs, hs, rs, rfl, nb, hp, lb, qE, qA⟩ := h
    have w0 : seeWhy rs h t = if (isThing rs && decide (rs.getD 0 0 = 4)) = true then (if h < t then some ("hour" : Str) else none) else some ("not a head" : Str) := rfl
    wtm_at "go"
    wtm_at "w"
    refine ⟨p, rs, 4, rfl, Z.SqT.of' hp, ?_⟩
    cases hg : (isThing rs && decide (rs.getD 0 0 = 4)) with
    | false =>
      rw [hg] at w0
      wtm_at "w"
      refine xs_raise1 C (ok_NotebookError T) T.ec_NotebookError tk (by wtm_at "m") (by omega) ?_
      refine xe_str ?_
      exact fun d H' k hd hx => qE "not a head" w0 d H' k hd hx
    | true =>
      rw [hg, if_pos rfl] at w0
      wtm_at "w"
      refine xe_fld ?_
      wtm_at "w"
      refine ⟨a, _, dx, _, _, rfl, nb.ha, T.cl_Notebook, T.na_Notebook__last_hour, nb_l mx dB dH t, ?_⟩
      wtm_at "w"
      refine ite_d (fun hlt => ?_) (fun hlt => ?_)
      · rw [if_pos hlt] at w0
        wtm_at "w"
        refine xs_raise1 C (ok_NotebookError T) T.ec_NotebookError tk (by wtm_at "m") (by omega) ?_
        refine xe_str ?_
        exact fun d H' k hd hx => qE "hour" w0 d H' k hd hx
      · rw [if_neg hlt] at w0
        wtm_at "w"
        refine xs_fld ?_
        wtm_at "w"
        refine ⟨a, _, dx, _, rfl, nb.ha, T.cl_Notebook, T.na_Notebook__last_hour, by show 4 < 1000; decide, fun H1 k1 h1 => ?_⟩
        rw [nb_set] at h1
        have hp1 := k1.t _ _ hp
        have hH1 := k1.at1 (ne_of nb.hH nb.ha (by intro z; cases z)) nb.hH
        obtain ⟨kb, hB, lk, hk⟩ := nb.hB
        have hB1 := k1.at1 (ne_of hB nb.ha (by intro z; cases z)) hB
        have hx1 : Mx T.C_Mixing H1 mx n f := by
          obtain ⟨d, e⟩ := nb.hx
          exact ⟨d, k1.at1 nb.ma e⟩
        wtm_at "w"
        refine xe_dsetdT C ?_
        refine xe_fld ?_
        wtm_at "w"
        refine ⟨a, _, dx, _, _, rfl, h1, T.cl_Notebook, T.na_Notebook__hours, nb_h mx dB dH h, ?_⟩
        refine ⟨dH, rfl, .inr ⟨_, .inl hH1⟩, ?_⟩
        wtm_at "w"
        have aH : a ≠ dH := ne_of h1 hH1 (by intro z; cases z)
        have kk : Kp [a, dH] H H1 := k1.wk (fun l m => by simp at m; simp [m])
        refine ⟨kvH hs, keyOf rs, p, hH1, rfl, by rw [keyOf_kV]; exact hp1, szl (by unfold kvH; rw [List.length_map]; omega), fun v hv => ?_, fun hn H2 k2 h2 => ?_⟩
        · wtm_at "w"
          rw [valV_kvH] at hv
          have es : seeR hs rs h = hs := by
            unfold seeR
            cases hl : lkR hs rs with
            | none => rw [hl] at hv; cases hv
            | some z => rw [if_neg (by simp)]
          exact qA w0 H1 kk ⟨h1, hx1, ⟨kb, hB1, lk, hk⟩, by rw [es]; exact hH1, nb.ne, nb.ma⟩
        · wtm_at "w"
          have hn0 := hn
          rw [valV_kvH] at hn
          have hl : lkR hs rs = none := by
            cases hl : lkR hs rs with
            | none => rfl
            | some z => rw [hl] at hn; cases hn
          have es : seeR hs rs h = hs ++ [(rs, h)] := by unfold seeR; rw [if_pos hl]
          rw [putK_new _ hn0, ← kvH_app] at h2
          refine qA w0 H2 (kk.tr1 k2 (.inl (by simp))) ⟨k2.at1 aH h1, ?_, ⟨kb, k2.at1 nb.ne hB1, lk, hk⟩, by rw [es]; exact h2, nb.ne, nb.ma⟩
          obtain ⟨d, e⟩ := hx1
          exact ⟨d, k2.at1 (ne_of e hH1 (by intro z; cases z)) e⟩
def sp_seen (CN CM : Addr) : Sp := fun vs H Q _ => ∃ (a p dx mx dB dH : Addr) (t n f : Int) (bs : List (List Int)) (hs : List (List Int × Int)) (rs : List Int), vs = [.ref a, .ref p] ∧ NbAt CN CM H a dx mx dB dH t n f bs hs ∧ H p = some (.tup (rs.map V.int)) ∧ Q (((lkR hs rs).map V.int).getD .non) H
theorem ok_seen (T : Txt P w K mg base) : MetOk P w K mg base T.C_Notebook "seen" ["self", "row"] 1 (sp_seen T.C_Notebook T.C_Mixing) := by
  obtain ⟨fn, fd, M, F, bi⟩ := T.m_Notebook_seen
  refine ⟨fn, fd, fnOk_by F sc_Notebook_seen oc_Notebook_seen (fun vs H Q E h => ?_) (fun X e1 e2 e3 e4 e5 C H vs Q E h => ?_), M, bi⟩
  · obtain ⟨a, p, dx, mx, dB, dH, t, n, f, bs, hs, rs, rfl, _⟩ := h; rfl
  · obtain ⟨a, p, dx, mx, dB, dH, t, n, f, bs, hs, rs, rfl, nb, hp, q⟩ := h
    wtm_at "go"
    refine xs_ret ?_
    refine xe_dget1 (by assumption) ?_
    refine xe_fld ?_
    wtm_at "w"
    refine ⟨a, _, dx, _, _, rfl, nb.ha, T.cl_Notebook, T.na_Notebook__hours, nb_h mx dB dH t, ?_⟩
    refine ⟨dH, rfl, .inr ⟨_, .inl nb.hH⟩, ?_⟩
    wtm_at "w"
    refine ⟨_, .inr ⟨_, keyOf rs, p, .inl nb.hH, rfl, by rw [keyOf_kV]; exact hp, rfl⟩, ?_⟩
    rw [valV_kvH]
    exact q
end
/-! noL -/
mutual
def noL : PyData → Bool
  | .list _ => false
  | .tuple ds => noLs ds
  | _ => true
def noLs : List PyData → Bool
  | [] => true
  | d :: ds => noL d && noLs ds
end
mutual
theorem dp_kpT {K : PySem.W.Frag} {H H' : Hp} {A : List Addr} (k : Kp A H H') : ∀ {d : PyData} {v : V}, noL d = true → Dp K H v d → Dp K H' v d
  | _, _, _, .non => .non
  | _, _, _, .bl b => .bl b
  | _, _, _, .int i => .int i
  | _, _, _, .str x => .str x
  | _, _, n, .lst h a => by simp [noL] at n
  | _, _, n, .tup h a => .tup (k.tup h) (dpAll_kpT k (by simpa [noL] using n) a)
theorem dpAll_kpT {K : PySem.W.Frag} {H H' : Hp} {A : List Addr} (k : Kp A H H') : ∀ {ds : List PyData} {vs : List V}, noLs ds = true → DpAll K H vs ds → DpAll K H' vs ds
  | _, _, _, .nil => .nil
  | _, _, n, .cons h a => by
    simp only [noLs, Bool.and_eq_true] at n
    exact .cons (dp_kpT k n.1 h) (dpAll_kpT k n.2 a)
end
theorem noLs_ints : ∀ ns : List Int, noLs (ns.map PyData.int) = true
  | [] => rfl
  | n :: ns => by rw [List.map_cons, noLs, noLs_ints ns]; rfl
theorem noLs_take : ∀ {ds : List PyData} (t : Nat), noLs ds = true → noLs (ds.take t) = true
  | [], t, _ => by simp [noLs]
  | d :: ds, 0, _ => rfl
  | d :: ds, t + 1, h => by
    simp only [noLs, Bool.and_eq_true] at h
    rw [List.take_succ_cons, noLs, h.1, noLs_take t h.2]; rfl
/-! strs -/
/-! texts that are compared; data taken apart -/
section
variable {X : Cx} {H : Hp} {Q : VK} {a b : Str}
theorem vo_eqS (h : Q (.bl (decide (a = b))) H) : VO X (compareOp .Eq) (.str a) (.str b) H Q := by
  refine ⟨_, op_eq, rfl, ?_⟩
  have e : decide (V.str a = V.str b) = decide (a = b) := by by_cases e : a = b <;> simp [e]
  rw [e]; exact h
theorem vo_neS (h : Q (.bl (!decide (a = b))) H) : VO X (compareOp .NotEq) (.str a) (.str b) H Q := by
  refine ⟨_, op_ne, rfl, ?_⟩
  have e : decide (V.str a = V.str b) = decide (a = b) := by by_cases e : a = b <;> simp [e]
  rw [e]; exact h
end
local macro_rules | `(tactic| wtm_at "v") => `(tactic| first | (with_reducible refine Law.vo_eqS ?_) | (with_reducible refine Law.vo_neS ?_) | fail)
theorem dp_tupI {K : PySem.W.Frag} {H : Hp} {v : V} {ds : List PyData} (h : Dp K H v (.tuple ds)) : ∃ p vs, v = .ref p ∧ SqT K H p vs ∧ DpAll K H vs ds := by
  cases h with
  | tup h a => exact ⟨_, _, rfl, h, a⟩
theorem dp_lstI {K : PySem.W.Frag} {H : Hp} {v : V} {ds : List PyData} (h : Dp K H v (.list ds)) : ∃ p vs, v = .ref p ∧ SqL K H p vs ∧ DpAll K H vs ds := by
  cases h with
  | lst h a => exact ⟨_, _, rfl, h, a⟩
theorem dpAll2 {K : PySem.W.Frag} {H : Hp} {vs : List V} {a b : PyData} (h : DpAll K H vs [a, b]) : ∃ x y, vs = [x, y] ∧ Dp K H x a ∧ Dp K H y b := by
  cases h with
  | cons h1 h => cases h with
    | cons h2 h => cases h; exact ⟨_, _, rfl, h1, h2⟩
theorem dpAll3 {K : PySem.W.Frag} {H : Hp} {vs : List V} {a b c : PyData} (h : DpAll K H vs [a, b, c]) : ∃ x y z, vs = [x, y, z] ∧ Dp K H x a ∧ Dp K H y b ∧ Dp K H z c := by
  cases h with
  | cons h1 h => cases h with
    | cons h2 h => cases h with
      | cons h3 h => cases h; exact ⟨_, _, _, rfl, h1, h2, h3⟩
theorem dp_strI {K : PySem.W.Frag} {H : Hp} {v : V} {s : Str} (h : Dp K H v (.str s)) : v = .str s := by cases h; rfl
theorem dp_intI {K : PySem.W.Frag} {H : Hp} {v : V} {s : Int} (h : Dp K H v (.int s)) : v = .int s := by cases h; rfl
/-! lc2 -/
/-! [.. for x, y in a list of pairs] -/
section
variable {X : Cx} {σ σ' : St} {H : Hp} {Q : VK} {N Vs Ls G Vs' G' : List Str} {k i j kt : Nat} {sc scope : Scope} {elt iter : Expr} {ifs : List Expr} {p1 p2 p3 pos : Pos} {nm nm2 : Str}
def gTwo (K : PySem.W.Frag) (i j : Nat) : TG := fun v σ H Q => ∃ (p : Addr) (x y : V), v = .ref p ∧ SqT K H p [x, y] ∧ Q ((σ.set i (some x)).set j (some y)) H
structure LcOk2 (sc scope : Scope) (N Vs' G' : List Str) (nm nm2 : Str) (i j : Nat) (ifs : List Expr) : Prop where
  hN : N[i]? = some nm
  hN2 : N[j]? = some nm2
  ne : i ≠ j
  blk : blkC N sc scope [(nm, i), (nm2, j)] = true
  rd : okC (relS scope sc) Vs' [] G' = true
  knd : scope.kind = .function
  own : (relS scope sc).names.lookup nm = some .local
  own2 : (relS scope sc).names.lookup nm2 = some .local
  one : ifs.length ≤ 1
theorem pg_two (C : Ctx X sc N Vs Ls G k) (O : LcOk2 sc scope N Vs' G' nm nm2 i j ifs) {s0 : Shared} {H0 : Hp} {c : Addr} {cl : List (Str × Addr)} {fp : List Addr} : PG (X.blk s0 H0 scope (compEnvC scope cl c X.env) fp) (.Tuple [.Name nm p1, .Name nm2 p2] kt p3) (gTwo X.K i j) := by
  refine ⟨fun pins s σ H v u Q I r ⟨p, x, y, e, ht, q⟩ => ?_⟩
  exact (pg_tup (X := X.blk s0 H0 scope (compEnvC scope cl c X.env) fp) (n := 2) C.calm (pgs_cons (pg_blk C O.hN O.own) (pgs_cons (pg_blk C O.hN2 O.own2) pgs_nil))).run pins s σ H v u Q I r ⟨p, [x, y], e, ht, rfl, x, [y], rfl, y, [], rfl, rfl, q⟩
/-- one turn: both names stored, the test, the element -/
def XTurn2 (X : Cx) (sc scope : Scope) (N Vs' G' : List Str) (k : Nat) (nm nm2 : Str) (ifs : List Expr) (elt : Expr) (σ : St) (v : V) (H : Hp) (L : Addr) (Nx : Hp → Prop) : Prop :=
  ∃ (p : Addr) (x y : V) (σ1 σ2 : St), v = .ref p ∧ SqT X.K H p [x, y] ∧ Put N σ nm x σ1 ∧ Put N σ1 nm2 y σ2 ∧
    match ifs with
    | [] => XEC X sc scope N Vs' G' k elt σ2 H fun z H4 => ∃ acc, H4 L = some (.lst acc) ∧ acc.length < sizeLine ∧ ∀ H5, Kp [L] H4 H5 → H5 L = some (.lst (acc ++ [z])) → Nx H5
    | c' :: _ => XTC X sc scope N Vs' G' k c' σ2 H fun b H3 => if b = true then XEC X sc scope N Vs' G' k elt σ2 H3 (fun z H4 => ∃ acc, H4 L = some (.lst acc) ∧ acc.length < sizeLine ∧ ∀ H5, Kp [L] H4 H5 → H5 L = some (.lst (acc ++ [z])) → Nx H5) else Nx H3
theorem turn_ok2 (C : Ctx X sc N Vs Ls G k) (O : LcOk2 sc scope N Vs' G' nm nm2 i j ifs) {v : V} {L : Addr} {Nx : Hp → Prop} (h : XTurn2 X sc scope N Vs' G' k nm nm2 ifs elt σ v H L Nx) :
    gTwo X.K i j v (wipe σ [i, j]) H fun σ2 H2 => wipe σ2 [i, j] = wipe σ [i, j] ∧ ttC X scope ifs σ2 H2 fun b H3 => if b = true then teC X scope elt σ2 H3 (fun y H4 => ∃ acc, H4 L = some (.lst acc) ∧ acc.length < sizeLine ∧ Nx (upd H4 L (.lst (acc ++ [y])))) else Nx H3 := by
  obtain ⟨p, x, y, σ1, σ2, e, ht, q1, q2, h⟩ := h
  obtain ⟨i', hi', e1⟩ := q1.ix
  obtain ⟨j', hj', e2⟩ := q2.ix
  have ei : i = i' := nd_ix C.nd O.hN hi'
  have ej : j = j' := nd_ix C.nd O.hN2 hj'
  subst ei; subst ej
  have ne := O.ne
  have w1 : ((wipe σ [i, j]).set i (some x)).set j (some y) = σ2 := by
    rw [← e2, ← e1]
    show (((σ.set j none).set i none).set i (some x)).set j (some y) = _
    rw [List.set_set, List.set_comm none (some x) (Ne.symm ne), List.set_set]
  refine ⟨p, x, y, e, ht, ?_⟩
  rw [w1]
  refine ⟨?_, ?_⟩
  · rw [← e2, ← e1]
    show ((((σ.set i (some x)).set j (some y)).set j none).set i none) = (σ.set j none).set i none
    rw [List.set_set, List.set_comm (some x) none ne, List.set_set]
  have fin : ∀ H3, XEC X sc scope N Vs' G' k elt σ2 H3 (fun z H4 => ∃ acc, H4 L = some (.lst acc) ∧ acc.length < sizeLine ∧ ∀ H5, Kp [L] H4 H5 → H5 L = some (.lst (acc ++ [z])) → Nx H5) →
      teC X scope elt σ2 H3 (fun y H4 => ∃ acc, H4 L = some (.lst acc) ∧ acc.length < sizeLine ∧ Nx (upd H4 L (.lst (acc ++ [y])))) := fun H3 h s0 H0 c cl fp =>
    (h s0 H0 c cl fp (blk_ctx C O.rd O.knd)).mono fun v H4 ⟨acc, h1, h2, h3⟩ => ⟨acc, h1, h2, h3 _ (Kp.set h1 rfl) upd_same⟩
  cases ifs with
  | nil => exact iteT (B := Nx H) (fin H h)
  | cons c' r =>
    intro s0 H0 c cl fp
    refine (h s0 H0 c cl fp (blk_ctx C O.rd O.knd)).mono fun b H3 q => ?_
    cases b with
    | false => exact q
    | true => exact fin H3 q
theorem xlc_L2 (C : Ctx X sc N Vs Ls G k) (O : LcOk2 sc scope N Vs' G' nm nm2 i j ifs)
    (h : XE X iter σ H fun v H1 => ∃ a xs, v = .ref a ∧ SqL X.K H1 a xs ∧ ∀ L H2, Kp [] H1 H2 → H1 L = none → H2 L = some (.lst []) → ∃ Pv : Nat → Hp → Prop, Pv 0 H2 ∧ (∀ t H', t ≤ xs.length → Pv t H' → SqL X.K H' a xs) ∧
      (∀ t y H', xs[t]? = some y → Pv t H' → XTurn2 X sc scope N Vs' G' k nm nm2 ifs elt σ y H' L (Pv (t + 1))) ∧ ∀ H', Pv xs.length H' → Q (.ref L) H') : XLC X elt (.Tuple [.Name nm p1, .Name nm2 p2] kt p3) iter ifs scope σ H Q := by
  refine ⟨_, gTwo X.K i j, ttC X scope ifs, teC X scope elt, [(nm, i), (nm2, j)], pi_list XE.pe, blkOk_by (by rw [C.hN, C.esc]; exact O.blk), fun _ _ _ _ _ => pg_two C O, fun _ _ _ _ _ => pts_blk O.one, fun _ _ _ _ _ => pe_blk,
    fun σ H R R' m h => h.mono fun v H1 ⟨a, e, h1, q⟩ => ⟨a, e, h1, m _ _ q⟩, ?_⟩
  refine h.mono fun v H1 ⟨a, xs, e, hx, h⟩ => ⟨a, e, ⟨xs, hx⟩, fun L hL => ?_⟩
  obtain ⟨Pv, h0, hl, hs, hd⟩ := h L _ (Kp.new hL) hL upd_same
  exact lc_list (K := X.K) (a := a) (xs := xs) Pv h0 hl (fun t y H' ht p => turn_ok2 C O (hs t y H' ht p)) hd
end
/-! enumS -/
/-! for i, x in enumerate(a list, start=k) -/
section
open PyProof.Rows
theorem callWith_tyKw {M : Model} {A : Around} {E : Value → Shared → Prop} {s : Shared} {env : Env} {pos : Pos} {T : String} {e : Expr} {rest : List Expr} {kws : List Keyword} {Q : Value → Shared → Prop}
    (h : wpAny M A (spliced (backTo pos (starEach (e :: rest) env))) (fun vs s₁ => wpAny M A (evalAll ((backToKw pos (keywordEach kws env)).map (·.2)))
      (fun kvs s₂ => wpAny M A (call (.type T) vs (((backToKw pos (keywordEach kws env)).filterMap (·.1)).zip kvs)) Q E s₂) E s₁) E s)
    (he : backTo pos (starEach (e :: rest) env) = (false, eval e env) :: backTo pos (starEach rest env) := by rfl)
    (hplain : (backTo pos (starEach (e :: rest) env)).any (·.1) = false := by rfl)
    (hall : (backToKw pos (keywordEach kws env)).all (·.1.isSome) = true := by rfl)
    (hkw : (backToKw pos (keywordEach kws env)).any (·.1.isNone) = false := by rfl) :
    wpAny M A (callWith pos (.type T) [] (backTo pos (starEach (e :: rest) env)) (backToKw pos (keywordEach kws env))) Q E s := by
  have h2 : wpAny M A (evalArgs (.type T) true (backTo pos (starEach (e :: rest) env)) (backToKw pos (keywordEach kws env))) (fun a s₁ => wpAny M A (call (.type T) ([] ++ a.pos) a.kw) Q E s₁) E s := by
    rw [he] at h ⊢
    exact evalArgs_kwB hall h
  unfold callWith
  refine wpAny_bind (wpAny_holding (wpAny_mono h2 (fun a s₁ h₁ => wpAny_bind (wpAny_standAt ?_)) fun _ _ x => x))
  simp only [hplain, hkw, Bool.or_false]
  refine wpAny_bind (wpAny_pure ?_)
  exact wpAny_bind (wpAny_mono h₁ (fun r s₂ hr => wpAny_bind (wpAny_holding (wpAny_point (wpAny_pure hr)))) fun _ _ x => x)
/-- the list at a, each item in a new pair with its number from k0 on -/
def IteS (K : PySem.W.Frag) (a : Addr) (k0 : Int) : It :=
  ⟨fun i H => ∃ (xs : List V) (x : V), SqL K H a xs ∧ xs[i]? = some x, fun i H v H' => ∃ T x, v = .ref T ∧ H T = none ∧ H' = upd H T (.tup [.int (k0 + (i : Int)), x]) ∧ ∀ xs, SqL K H a xs → xs[i]? = some x, fun i H => ∃ xs : List V, SqL K H a xs ∧ xs.length = i⟩
theorem turn_enumS {P : Program} {w : World} {K : PySem.W.Frag} {elts : List Expr} {kk : Nat} {tpos : Pos} (a e it : Addr) (k0 : Int) (n1 : a ≠ it) (n2 : e ≠ it) (n3 : e ≠ a) :
    Turn P w K (.Tuple elts kk tpos) (IteS K a k0) [e, it] e (fun i h => (∃ old, IsEnum h e it (k0 + (i : Int)) old) ∧ h.IsListIter it a i) where
  mem := by simp
  obj := fun i h st b hb => by
    obtain ⟨⟨old, he⟩, ⟨o, ho, hc, hd⟩⟩ := st
    have e' : b = e ∨ b = it := by simpa using hb
    rcases e' with z | z
    · rw [z]; exact ⟨_, he, fun v q => nomatch q⟩
    · rw [z]; exact ⟨o, ho, fun v q => by rw [hd] at q; cases q⟩
  keep := fun i h h' st k => let ⟨⟨old, he⟩, hi⟩ := st; ⟨⟨old, k e (by simp) _ he⟩, hi.at fun o q => k it (by simp) o q⟩
  item := by
    rintro X rfl rfl rfl hc i pins s σ H E I hf ⟨⟨old, he⟩, hit⟩ ⟨xs, x, lx, ex⟩
    have ⟨its, rv, p, _⟩ := I.list lx
    have ⟨u, hu, ru⟩ := rv.get ex
    have D1 := Draws.list (prog := X.prog) (w := X.w) (A := X.A.in1) (I.ok.hd hc) it a n1 its.toArray
    have W := GoesN.enumFrom (elts := elts) (x1 := kk) (pos := tpos) k0 D1 e n2 (by simp [n2, n3]) (by simp)
    have b1 : i < its.length := (List.getElem?_eq_some_iff.1 hu).1
    refine W.goes i s (fun v s2 => ∃ x H', Inv X pins σ H' s2 ∧ RelV x v ∧ (IteS X.K a k0).yld i H x H' ∧ ((∃ old, IsEnum s2.heap e it (k0 + ((i + 1 : Nat) : Int)) old) ∧ s2.heap.IsListIter it a (i + 1)) ∧ ∀ b ∈ [e, it], H' b = none) E (by simpa using b1) ⟨⟨old, he⟩, hit, p.isList⟩ ?_
    rintro v h' tk ⟨T, t1, v1, rfl, hn, hv1, hT⟩ ⟨r1, r2, _⟩ hk _
    have c1 : v1 = u := by simpa [hu] using hv1.symm
    subst c1
    have new : ObjOk X.prog X.w (upd H T (.tup [.int (k0 + (i : Int)), x])) h' T (.tup [.int (k0 + (i : Int)), x]) := ⟨by show 2 ≤ sizeLine; decide, [.int (k0 + (i : Int)) t1, v1], .cons ⟨_, rfl⟩ (.cons ru .nil), hT⟩
    refine ⟨.ref T, _, I.turnedNew (t' := tk) (ch := [e, it]) (fun c o hb q => hk c o hb q) (fun c hm => hf c hm) hn new, rfl, ⟨T, x, rfl, I.hok.fresh hn, rfl, fun l hl => I.list_inj hl lx ▸ ex⟩, ⟨r1, r2⟩, fun c hm => ?_⟩
    have hl : c < s.heap.objs.size := by
      obtain ⟨o2, q2, _⟩ := hit
      simp only [List.mem_cons, List.not_mem_nil, or_false] at hm
      rcases hm with rfl | rfl
      · exact Heap.lt_size he
      · exact Heap.lt_size q2
    exact (upd_ne (Nat.ne_of_lt (Nat.lt_of_lt_of_le hl hn))).trans (hf c hm).1
  done := by
    rintro X rfl rfl rfl hc i pins s σ H E I hf ⟨⟨old, he⟩, hit⟩ ⟨xs, lx, ex⟩
    have ⟨its, rv, p, _⟩ := I.list lx
    have D1 := Draws.list (prog := X.prog) (w := X.w) (A := X.A.in1) (I.ok.hd hc) it a n1 its.toArray
    have W := GoesN.enumFrom (elts := elts) (x1 := kk) (pos := tpos) k0 D1 e n2 (by simp [n2, n3]) (by simp)
    have hi : its.toArray.size = i := by
      have l1 := rv.length
      simp; omega
    refine W.stops s (fun s1 => Inv X pins σ H s1) E (by rw [hi]; exact ⟨⟨old, he⟩, hit, p.isList⟩) ?_
    intro h' tk hk _
    exact I.turnedL (t' := tk) (ch := [e, it]) (fun c o hb q => hk c o hb q) fun c hm => hf c hm
  self := fun A i s Q E st h => let ⟨⟨_, he⟩, _⟩ := st; wpAny_pyIter_enum he h
def iEnumS (K : PySem.W.Frag) (k0 : Int) (ta : TA) : TI := fun σ H R => ta σ H fun vs H1 => ∃ a xs, vs = [.ref a] ∧ SqL K H1 a xs ∧ R (IteS K a k0) H1
theorem pi_enumS {X : Cx} {e : Expr} {ta : TA} {p pos tpos cpos kpos : Pos} {elts : List Expr} {kk j : Nat} {k0 : Int} (hk0 : -(2 ^ 63) ≤ k0) (hk1 : k0 < 2 ^ 63) (hg : Gl X "enumerate") (hm : X.mg "enumerate" = none) (ha : PA X [e] ta) (hst : starEach [e] X.env = [(false, eval e X.env)] := by rfl) :
    PI X (.Tuple elts kk tpos) (.Call (.Name "enumerate" p) [e] [⟨some "start", .Constant (.int k0) j cpos, kpos⟩] pos) (iEnumS X.K k0 ta) where
  run := by
    intro pins s σ H R I h
    refine wpAny_Call_Name_kw (ld_blt I hg hm PyProof.Rows.boot_enumerate ?_)
    refine callWith_tyKw (he := by rw [hst]; rfl) (hplain := by rw [hst]; rfl) (thn (ha.run pos pins s σ H _ I h) ?_)
    rintro us s1 ⟨vs, H1, I1, r1, a, xs, rfl, lx, q⟩
    refine thn ((pk_cons (X := X) (nm := some "start") (kpos := kpos) (pe_int (X := X) (i := k0) (j := j) (pos := cpos)) pk_nil).run pos pins s1 σ H1 (fun zs H2 => zs = [.int k0] ∧ H2 = H1) I1 ⟨rfl, rfl⟩) ?_
    rintro ws s2 ⟨zs, H2, I2, r2, rfl, rfl⟩
    match us, r1, ws, r2 with
    | [_], .cons r .nil, [_], .cons rk .nil =>
      cases r
      obtain ⟨tk0, rfl⟩ := rk
      have ⟨its, _, p1, _⟩ := I2.list lx
      have la : a < s2.heap.objs.size := p1.lt
      show wpAny _ _ (call (.type "enumerate") [.ref a] [(Str.ofString "start", .int k0 tk0)]) _ _ _
      refine enum_begins_start (begins_list a its.toArray) p1.isList hk0 hk1 fun h' q1 q2 _ hk => wpAny_pyIter_enum q1 ?_
      refine ⟨_, [s2.heap.objs.size + 1, s2.heap.objs.size], _, _, H2, rfl, I2.kept (t' := s2.toks) hk, turn_enumS a _ _ k0 (Nat.ne_of_lt la) (Nat.succ_ne_self _) (Nat.ne_of_gt (Nat.lt_succ_of_lt la)), ⟨⟨.none, by simpa using q1⟩, ⟨_, q2, rfl, rfl⟩⟩, fun c hm => ?_, q⟩
      have hl : s2.heap.objs.size ≤ c := by
        simp only [List.mem_cons, List.not_mem_nil, or_false] at hm
        rcases hm with rfl | rfl <;> first | exact Nat.le_refl _ | exact Nat.le_add_right _ _
      exact I2.fpOk hl (I2.hok.fresh hl)
end
theorem for_enumS {K : PySem.W.Frag} {a : Addr} {k0 : Int} {xs : List V} {g : TG} {tb : TS} {D : Ends} {σ : L2.St} {H : Hp} (Pv : Nat → L2.St → Hp → Prop) (h0 : Pv 0 σ H) (hq : ∀ i σ H, i ≤ xs.length → Pv i σ H → SqL K H a xs)
    (hs : ∀ (i : Nat) (x : V) (T : Addr) (σ : L2.St) (H : Hp), xs[i]? = some x → Pv i σ H → H T = none → g (.ref T) σ (upd H T (.tup [.int (k0 + (i : Int)), x])) fun σ2 H2 => tb ⟨Pv (i + 1), D.rt, D.nx, Pv (i + 1)⟩ σ2 H2) (hd : ∀ σ H, Pv xs.length σ H → D.nx σ H) :
    ∃ W : Nat → Nat → L2.St → Hp → Prop, (∃ m, W 0 m σ H) ∧ ∀ i m σ H, W i m σ H →
      ((IteS K a k0).stop i H ∧ D.nx σ H) ∨ ((IteS K a k0).go i H ∧ ∃ N : L2.St → Hp → Prop, (∀ σ' H', N σ' H' → ∃ m', m' < m ∧ W (i + 1) m' σ' H') ∧ ∀ v H', (IteS K a k0).yld i H v H' → g v σ H' fun σ2 H2 => tb { D with nx := N, ct := N, bk := D.nx } σ2 H2) := by
  refine ⟨fun i m σ H => i ≤ xs.length ∧ m + i = xs.length ∧ Pv i σ H, ⟨_, Nat.zero_le _, rfl, h0⟩, ?_⟩
  rintro i m σ H ⟨hi, hm, p⟩
  have qx := hq i σ H hi p
  rcases Nat.lt_or_ge i xs.length with lt | ge
  · have ex := List.getElem?_eq_getElem lt
    refine .inr ⟨⟨xs, _, qx, ex⟩, Pv (i + 1), fun σ' H' p' => ⟨m - 1, by omega, lt, by omega, p'⟩, ?_⟩
    rintro v H' ⟨T, x', rfl, hT, rfl, f1⟩
    exact hs i x' T σ H (f1 _ qx) p hT
  · obtain rfl : i = xs.length := Nat.le_antisymm hi ge
    exact .inl ⟨⟨xs, qx, rfl⟩, hd σ H p⟩
section
variable {X : Cx} {σ : St} {H : Hp} {N Vs Ls G : List Str} {k : Nat} {sc : Scope} {e : Expr} {pos p2 tpos p cpos kpos : Pos} {nx : St → Hp → Prop} {D : B3} {body : List Stmt} {elts : List Expr} {kk j : Nat} {k0 : Int}
theorem xs_forES (C : Ctx X sc N Vs Ls G k) (hk0 : -(2 ^ 63) ≤ k0) (hk1 : k0 < 2 ^ 63) (hg : Mem G "enumerate") (hm : X.mg "enumerate" = none) (h : XA X [e] σ H fun vs H1 => ∃ a xs, vs = [.ref a] ∧ SqL X.K H1 a xs ∧ ∃ Pv : Nat → St → Hp → Prop, Pv 0 σ H1 ∧
    (∀ i σ' H', i ≤ xs.length → Pv i σ' H' → SqL X.K H' a xs) ∧ (∀ i x T σ' H' H2, xs[i]? = some x → Pv i σ' H' → Kp [] H' H2 → SqT X.K H2 T [.int (k0 + (i : Int)), x] → XG X (.Tuple elts kk tpos) (.ref T) σ' H2 fun σ3 H3 => XB X body (Pv (i + 1)) ⟨D.rt, nx, Pv (i + 1)⟩ σ3 H3) ∧ ∀ σ' H', Pv xs.length σ' H' → nx σ' H')
    (hst : starEach [e] X.env = [(false, eval e X.env)] := by rfl) (hfs : ∀ x, foldedSetIterable (.Call (.Name "enumerate" p) [e] [⟨some "start", .Constant (.int k0) j cpos, kpos⟩] p2) X.env x = pure x := by intro _; rfl) : XS X (.For (.Tuple elts kk tpos) (.Call (.Name "enumerate" p) [e] [⟨some "start", .Constant (.int k0) j cpos, kpos⟩] p2) body [] pos) nx D σ H := by
  refine ⟨_, ps_for C.po C.calm (pi_enumS hk0 hk1 (C.gl hg) hm XA.pa hst) XG.pg XB.ps hfs, ?_⟩
  refine XA.mono h fun vs H1 ⟨a, xs, e, hx, Pv, h0, hq, hs, hd⟩ => ⟨a, xs, e, hx, ?_⟩
  exact for_enumS (K := X.K) (a := a) (k0 := k0) (xs := xs) (D := ⟨nx, D.rt, D.bk, D.ct⟩) (g := XG X (.Tuple elts kk tpos)) (tb := fun D σ H => XB X body D.nx ⟨D.rt, D.bk, D.ct⟩ σ H) Pv h0 hq
    (fun i x T σ H hx hp hT => hs i x T σ H _ hx hp (Kp.new hT) (.inl (.inl upd_same))) hd
end
/-! linksP -/
/-! places; what a thing holds there -/
structure Pl where
  w : Str
  i : Int
  way : List Int
def plD (p : Pl) : PyData := .tuple (if p.w = ("entry" : Str) then [.str p.w, .int p.i, .tuple (p.way.map PyData.int)] else [.str p.w, .int p.i])
def PlAt (K : PySem.W.Frag) (H : Hp) (a : Addr) (p : Pl) : Prop := ∃ r, SqT K H a (.str p.w :: .int p.i :: r) ∧ (p.w = ("entry" : Str) → ∃ wa, r = [.ref wa] ∧ SqT K H wa (p.way.map V.int))
theorem PlAt.kp {K : PySem.W.Frag} {A : List Addr} {H H' : Hp} {a : Addr} {p : Pl} (h : PlAt K H a p) (k : Kp A H H') : PlAt K H' a p := by
  obtain ⟨r, h1, h2⟩ := h
  exact ⟨r, k.tup h1, fun e => by obtain ⟨wa, e1, e2⟩ := h2 e; exact ⟨wa, e1, k.tup e2⟩⟩
theorem PlAt.of {K : PySem.W.Frag} {H : Hp} {v : V} {p : Pl} (h : Dp K H v (plD p)) : ∃ a, v = .ref a ∧ PlAt K H a p := by
  obtain ⟨a, vs, rfl, h1, h2⟩ := dp_tupI h
  refine ⟨a, rfl, ?_⟩
  by_cases e : p.w = ("entry" : Str)
  · rw [if_pos e] at h2
    obtain ⟨x, y, z, rfl, d1, d2, d3⟩ := dpAll3 h2
    rw [dp_strI d1, dp_intI d2] at h1
    obtain ⟨wa, rfl, hw⟩ := dp_Tinv d3
    exact ⟨_, h1, fun _ => ⟨wa, rfl, hw⟩⟩
  · rw [if_neg e] at h2
    obtain ⟨x, y, rfl, d1, d2⟩ := dpAll2 h2
    rw [dp_strI d1, dp_intI d2] at h1
    exact ⟨_, h1, fun z => absurd z e⟩
theorem cut2 (x y : V) (r : List V) : cutV (x :: y :: r) none (some 2) = [x, y] := by
  have := cut_take (x :: y :: r) 2 (by simp)
  rw [show ((2 : Nat) : Int) = 2 from rfl] at this
  rw [this]; rfl
/-- what a thing lists at a word -/
def listN (rs : List Int) (w : Str) : List Int := if w = ("cite" : Str) ∧ rs.getD 0 0 = 2 then (rs.drop 2).take (rs.getD 1 0).toNat else if w = ("back" : Str) ∧ rs.getD 0 0 = 4 then rs.drop 6 else []
def hasPl (rs : List Int) (p : Pl) : Bool := if p.w = ("entry" : Str) then decide (rs.getD 0 0 = 4 ∧ 0 ≤ p.i ∧ p.i < rs.getD 4 0) else decide (0 ≤ p.i ∧ p.i < (listN rs p.w).length)
def heldO (rs : List Int) (p : Pl) : Option Int := if p.w = ("entry" : Str) ∨ hasPl rs p = false then none else some ((listN rs p.w).getD p.i.toNat 0)
def climbO (n f : Int) (c i : Nat) (d : Int) (w : List Int) : Option Int := if (tn c i).length = w.length then some (cl n f (tn c i) d w) else none
def holdsB (n f : Int) (rs : List Int) (p : Pl) (d : Int) : Bool := if p.w = ("entry" : Str) then hasPl rs p && decide (climbO n f (rs.getD 4 0).toNat p.i.toNat d p.way = some (rs.getD 5 0)) else decide (heldO rs p = some d)
def rrB (bs rs : List Int) (p : Pl) : Bool := if p.w = ("back" : Str) then decide (bs.getD 0 0 = 4 ∧ bs.getD 1 0 = rs.getD 1 0 ∧ bs.getD 2 0 = rs.getD 2 0 - 2 ^ p.i.toNat ∧ bs.getD 3 0 < rs.getD 3 0) else true
structure RowOk (rs : List Int) : Prop where
  len : rs.length ≤ 10000
  one : 0 ≤ rs.getD 1 0
  four : rs.getD 0 0 = 4 → rs.getD 4 0 ≤ 2 ^ 68
def optV : Option Int → V
  | none => .non
  | some i => .int i
theorem cut_doc {rs : List Int} (h2 : 2 ≤ rs.length) (h1 : 0 ≤ rs.getD 1 0) : cutV (rs.map V.int) (some 2) (some (2 + rs.getD 1 0)) = ((rs.drop 2).take (rs.getD 1 0).toNat).map V.int := by
  generalize rs.getD 1 0 = c at h1 ⊢
  obtain ⟨c, rfl⟩ := Int.eq_ofNat_of_zero_le h1
  unfold cutV
  rw [show (2 : Int) + (c : Int) = ((2 + c : Nat) : Int) by omega, show (2 : Int) = ((2 : Nat) : Int) from rfl, HT.sIx_nat, HT.sIx_nat, List.length_map, Nat.min_eq_left h2, List.map_take, List.map_drop, Int.toNat_natCast]
  rw [List.take_eq_take_iff, List.length_drop, List.length_map]
  omega
theorem cut_six {rs : List Int} (h : 6 ≤ rs.length) : cutV (rs.map V.int) (some 6) none = (rs.drop 6).map V.int := by
  have := cut_drop (rs.map V.int) 6 (by rw [List.length_map]; exact h)
  rw [show ((6 : Nat) : Int) = 6 from rfl] at this
  rw [this, List.map_drop]
theorem cut14 {rs : List Int} (h : 4 ≤ rs.length) : cutV (rs.map V.int) (some 1) (some 4) = [.int (rs.getD 1 0), .int (rs.getD 2 0), .int (rs.getD 3 0)] := by
  match rs, h with
  | a :: b :: c :: d :: r, _ =>
    unfold cutV
    have l : ((a :: b :: c :: d :: r).map V.int).length = 4 + r.length := by simp; omega
    rw [l]
    rw [show HT.sIx (4 + r.length) 0 (some 1) = 1 by rw [show (1 : Int) = ((1 : Nat) : Int) from rfl, HT.sIx_nat]; omega, show HT.sIx (4 + r.length) (4 + r.length) (some 4) = 4 by rw [show (4 : Int) = ((4 : Nat) : Int) from rfl, HT.sIx_nat]; omega]
    rfl
theorem hasPl_back {rs : List Int} {p : Pl} (h : hasPl rs p = true) (hb : p.w = ("back" : Str)) : rs.getD 0 0 = 4 ∧ 0 ≤ p.i ∧ p.i < ((rs.drop 6).length : Int) := by
  unfold hasPl at h
  rw [if_neg (by rw [hb]; decide +kernel)] at h
  obtain ⟨h1, h2⟩ := of_decide_eq_true h
  unfold listN at h2
  rw [if_neg (fun z => absurd (hb.symm.trans z.1) (by decide +kernel))] at h2
  by_cases e : rs.getD 0 0 = 4
  · rw [if_pos ⟨hb, e⟩] at h2
    exact ⟨e, h1, h2⟩
  · rw [if_neg (fun z => e z.2)] at h2
    simp at h2; omega
/-! listed -/
section
local macro_rules | `(tactic| wtm_at "d") => `(tactic| first | ((with_reducible show Z.XE _ (PySem.Expr.Name "DOCUMENT" _) _ _ _); refine Z.xe_glob (v := L2.V.int 2) (by assumption) (by wtm_at "m") T.c_DOCUMENT.choose_spec ⟨_, rfl⟩ ?_) | ((with_reducible show Z.XE _ (PySem.Expr.Name "HEAD" _) _ _ _); refine Z.xe_glob (v := L2.V.int 4) (by assumption) (by wtm_at "m") T.c_HEAD.choose_spec ⟨_, rfl⟩ ?_) | ((with_reducible show Z.XE _ (PySem.Expr.Name "CITE" _) _ _ _); refine Z.xe_glob (v := L2.V.str "cite") (by assumption) (by wtm_at "m") T.c_CITE.choose_spec ⟨_, rfl⟩ ?_) | ((with_reducible show Z.XE _ (PySem.Expr.Name "BACK" _) _ _ _); refine Z.xe_glob (v := L2.V.str "back") (by assumption) (by wtm_at "m") T.c_BACK.choose_spec ⟨_, rfl⟩ ?_) | ((with_reducible show Z.XE _ (PySem.Expr.Call (PySem.Expr.Name "kind_of" _) (_ :: _) [] _) _ _ _); refine Z.xe_call (by assumption) (Law.ok_kind_of T) (by wtm_at "m") (by omega) ?_) | fail)
def sp_listed (K : PySem.W.Frag) : Sp := fun vs H Q _ => ∃ (a : Addr) (rs : List Int) (w : Str), vs = [.ref a, .str w] ∧ SqT K H a (rs.map V.int) ∧ isThing rs = true ∧ RowOk rs ∧ ∀ p H', Kp [] H H' → SqT K H' p ((listN rs w).map V.int) → Q (.ref p) H'
theorem ok_listed (T : Txt P w K mg base) : DefOk P w K mg base "listed" ["row", "word"] 2 (sp_listed K) := by
  refine DefOk.by T.d_listed sc_listed oc_listed (fun vs H Q E h => ?_) (fun X e1 e2 e3 e4 e5 C H vs Q E h => ?_)
  · obtain ⟨a, rs, w, rfl, _⟩ := h; rfl
  · obtain ⟨a, rs, w, rfl, hr, th, ro, q⟩ := h
    have hp := isThing_pos th
    have l0 : listN rs w = if w = ("cite" : Str) ∧ rs.getD 0 0 = 2 then (rs.drop 2).take (rs.getD 1 0).toNat else if w = ("back" : Str) ∧ rs.getD 0 0 = 4 then rs.drop 6 else [] := rfl
    wtm_at "go"
    wtm_at "w"
    refine ⟨a, rs, rfl, hr, hp, ?_⟩
    refine ⟨_, by wtm_at "u", ?_⟩
    have rest : ¬ (w = ("cite" : Str) ∧ rs.getD 0 0 = 2) → XB X ((defBody s_listed).drop 2) (fun _ H' => Q .non H') ⟨Q, fun _ _ => False, fun _ _ => False⟩ [some (.ref a), some (.str w), some (.int (rs.getD 0 0))] H := by
      intro c0
      rw [if_neg c0] at l0
      have e0 : ¬ (w = ("back" : Str) ∧ rs.getD 0 0 = 4) → ∀ p H', Kp [] H H' → SqT X.K H' p [] → Q (.ref p) H' := fun c1 p H' k h => q p H' k (by rw [l0, if_neg c1]; exact h)
      refine xb_cons ?_
      wtm_at "w"
      refine ite_d (fun h1 => ?_) (fun h1 => ?_)
      · wtm_at "w"
        refine ite_d (fun h2 => ?_) (fun h2 => ?_)
        · rw [if_pos ⟨h1, h2⟩] at l0
          obtain ⟨h6, _⟩ := isThing_hd th h2
          wtm_at "w"
          refine vsl_tup hr (fun p H1 k1 h => ?_)
          rw [cut_six h6] at h
          exact q p H1 k1 (by rw [l0]; exact h)
        · wtm_at "w"
          exact fun p H1 k1 h _ => e0 (fun z => h2 z.2) p H1 k1 h
      · wtm_at "w"
        exact fun p H1 k1 h _ => e0 (fun z => h1 z.1) p H1 k1 h
    refine xb_cons ?_
    wtm_at "w"
    refine ite_d (fun h1 => ?_) (fun h1 => ?_)
    · wtm_at "w"
      refine ite_d (fun h2 => ?_) (fun h2 => ?_)
      · rw [if_pos ⟨h1, h2⟩] at l0
        obtain ⟨h6, _⟩ := isThing_doc th h2
        wtm_at "w"
        refine vx_tup hr (at_getD 1 (by omega)) ?_
        wtm_at "w"
        refine vsl_tup hr (fun p H1 k1 h => ?_)
        rw [cut_doc h6 ro.one] at h
        exact q p H1 k1 (by rw [l0]; exact h)
      · refine xb_nil (rest (fun z => h2 z.2))
    · refine xb_nil (rest (fun z => h1 z.1))
end
/-! linksF -/
section
local macro_rules | `(tactic| wtm_at "d") => `(tactic| first | ((with_reducible show Z.XE _ (PySem.Expr.Call (PySem.Expr.Name "len" _) (_ :: _) [] _) _ _ _); refine Z.xe_callB (id := "len") (by assumption) (by wtm_at "m") T.b_len (by decide +kernel) ?_) | ((with_reducible show Z.XE _ (PySem.Expr.Name "HEAD" _) _ _ _); refine Z.xe_glob (v := L2.V.int 4) (by assumption) (by wtm_at "m") T.c_HEAD.choose_spec ⟨_, rfl⟩ ?_) | ((with_reducible show Z.XE _ (PySem.Expr.Name "BACK" _) _ _ _); refine Z.xe_glob (v := L2.V.str "back") (by assumption) (by wtm_at "m") T.c_BACK.choose_spec ⟨_, rfl⟩ ?_) | ((with_reducible show Z.XE _ (PySem.Expr.Name "ENTRY" _) _ _ _); refine Z.xe_glob (v := L2.V.str "entry") (by assumption) (by wtm_at "m") T.c_ENTRY.choose_spec ⟨_, rfl⟩ ?_) | ((with_reducible show Z.XE _ (PySem.Expr.Call (PySem.Expr.Name "digest" _) (_ :: _) [] _) _ _ _); refine Z.xe_call (by assumption) (Law.ok_digest T) (by wtm_at "m") (by omega) ?_) | ((with_reducible show Z.XE _ (PySem.Expr.Call (PySem.Expr.Name "kind_of" _) (_ :: _) [] _) _ _ _); refine Z.xe_call (by assumption) (Law.ok_kind_of T) (by wtm_at "m") (by omega) ?_) | ((with_reducible show Z.XE _ (PySem.Expr.Call (PySem.Expr.Name "climb" _) (_ :: _) [] _) _ _ _); refine Z.xe_call (by assumption) (Law.ok_climb T) (by wtm_at "m") (by omega) ?_) | ((with_reducible show Z.XE _ (PySem.Expr.Call (PySem.Expr.Name "listed" _) (_ :: _) [] _) _ _ _); refine Z.xe_call (by assumption) (Law.ok_listed T) (by wtm_at "m") (by omega) ?_) | ((with_reducible show Z.XE _ (PySem.Expr.Call (PySem.Expr.Name "has_place" _) (_ :: _) [] _) _ _ _); refine Z.xe_call (by assumption) (Law.ok_has_place T) (by wtm_at "m") (by omega) ?_) | ((with_reducible show Z.XE _ (PySem.Expr.Call (PySem.Expr.Name "held_at" _) (_ :: _) [] _) _ _ _); refine Z.xe_call (by assumption) (Law.ok_held_at T) (by wtm_at "m") (by omega) ?_) | fail)
def sp_hasPl (K : PySem.W.Frag) : Sp := fun vs H Q _ => ∃ (a pa : Addr) (rs : List Int) (p : Pl), vs = [.ref a, .ref pa] ∧ SqT K H a (rs.map V.int) ∧ PlAt K H pa p ∧ isThing rs = true ∧ RowOk rs ∧ ∀ H', Kp [] H H' → Q (.bl (hasPl rs p)) H'
theorem ok_has_place (T : Txt P w K mg base) : DefOk P w K mg base "has_place" ["row", "place"] 3 (sp_hasPl K) := by
  refine DefOk.by T.d_has_place sc_has_place oc_has_place (fun vs H Q E h => ?_) (fun X e1 e2 e3 e4 e5 C H vs Q E h => ?_)
  · obtain ⟨a, pa, rs, p, rfl, _⟩ := h; rfl
  · obtain ⟨a, pa, rs, p, rfl, hr, hpl, th, ro, q⟩ := h
    have hp := isThing_pos th
    have h0 : hasPl rs p = if p.w = ("entry" : Str) then decide (rs.getD 0 0 = 4 ∧ 0 ≤ p.i ∧ p.i < rs.getD 4 0) else decide (0 ≤ p.i ∧ p.i < (listN rs p.w).length) := rfl
    obtain ⟨r, hpa, _⟩ := hpl
    wtm_at "go"
    refine xs_asg ?_
    wtm_at "w"
    refine vsl_tup hpa (fun t H1 k1 ht => ?_)
    rw [cut2] at ht
    have hr1 := k1.tup hr
    refine xg_tup C ⟨t, _, rfl, ht, rfl, ?_⟩
    wtm_at "w"
    refine ite_d (fun h1 => ?_) (fun h1 => ?_)
    · rw [if_pos h1] at h0
      wtm_at "w"
      refine ⟨a, rs, rfl, hr1, hp, ?_⟩
      wtm_at "w"
      refine ite_d (fun h2 => ?_) (fun h2 => ?_)
      · obtain ⟨h6, _⟩ := isThing_hd th h2
        wtm_at "w"
        refine ite_d (fun h3 => ?_) (fun h3 => ?_)
        · wtm_at "w"
          refine vx_tup hr1 (at_getD 4 (by omega)) ?_
          wtm_at "w"
          have := q H1 k1
          rw [h0] at this
          have e : decide (p.i < rs.getD 4 0) = decide (rs.getD 0 0 = 4 ∧ 0 ≤ p.i ∧ p.i < rs.getD 4 0) := by apply decide_eq_decide.mpr; exact ⟨fun z => ⟨h2, h3, z⟩, fun z => z.2.2⟩
          rw [e]; exact this
        · have := q H1 k1
          rw [h0, decide_eq_false (fun z => h3 z.2.1)] at this
          exact this
      · have := q H1 k1
        rw [h0, decide_eq_false (fun z => h2 z.1)] at this
        rw [decide_eq_false h2]
        exact this
    · rw [if_neg h1] at h0
      wtm_at "w"
      refine ite_d (fun h3 => ?_) (fun h3 => ?_)
      · wtm_at "w"
        refine ⟨a, rs, p.w, rfl, hr1, th, ro, fun l H2 k2 hl => ?_⟩
        wtm_at "w"
        have := q H2 (k1.tr0 k2)
        rw [h0] at this
        rw [List.length_map]
        have e : decide (p.i < ((listN rs p.w).length : Int)) = decide (0 ≤ p.i ∧ p.i < (listN rs p.w).length) := by apply decide_eq_decide.mpr; exact ⟨fun z => ⟨h3, z⟩, fun z => z.2⟩
        rw [e]; exact this
      · have := q H1 k1
        rw [h0, decide_eq_false (fun z => h3 z.1)] at this
        exact this
def sp_heldAt (K : PySem.W.Frag) : Sp := fun vs H Q _ => ∃ (mv : V) (a pa : Addr) (rs : List Int) (p : Pl), vs = [mv, .ref a, .ref pa] ∧ SqT K H a (rs.map V.int) ∧ PlAt K H pa p ∧ isThing rs = true ∧ RowOk rs ∧ ∀ H', Kp [] H H' → Q (optV (heldO rs p)) H'
theorem ok_held_at (T : Txt P w K mg base) : DefOk P w K mg base "held_at" ["mixing", "row", "place"] 4 (sp_heldAt K) := by
  refine DefOk.by T.d_held_at sc_held_at oc_held_at (fun vs H Q E h => ?_) (fun X e1 e2 e3 e4 e5 C H vs Q E h => ?_)
  · obtain ⟨mv, a, pa, rs, p, rfl, _⟩ := h; rfl
  · obtain ⟨mv, a, pa, rs, p, rfl, hr, hpl, th, ro, q⟩ := h
    have h0 : heldO rs p = if p.w = ("entry" : Str) ∨ hasPl rs p = false then none else some ((listN rs p.w).getD p.i.toNat 0) := rfl
    have g0 : hasPl rs p = if p.w = ("entry" : Str) then decide (rs.getD 0 0 = 4 ∧ 0 ≤ p.i ∧ p.i < rs.getD 4 0) else decide (0 ≤ p.i ∧ p.i < (listN rs p.w).length) := rfl
    obtain ⟨r, hpa, hx⟩ := id hpl
    wtm_at "go"
    refine xs_asg ?_
    wtm_at "w"
    refine vsl_tup hpa (fun t H1 k1 ht => ?_)
    rw [cut2] at ht
    have hr1 := k1.tup hr
    have hp1 := hpl.kp k1
    refine xg_tup C ⟨t, _, rfl, ht, rfl, ?_⟩
    wtm_at "w"
    refine ite_d (fun h1 => ?_) (fun h1 => ?_)
    · rw [if_pos (.inl h1)] at h0
      wtm_at "w"
      have := q H1 k1
      rw [h0] at this
      exact this
    · rw [if_neg h1] at g0
      wtm_at "w"
      refine ⟨a, pa, rs, p, rfl, hr1, hp1, th, ro, fun H2 k2 => ?_⟩
      have hr2 := k2.tup hr1
      have k02 := k1.tr0 k2
      cases hh : hasPl rs p with
      | false =>
        rw [if_pos (.inr hh)] at h0
        wtm_at "w"
        have := q H2 k02
        rw [h0] at this
        exact this
      | true =>
        rw [if_neg (fun z => z.elim h1 (fun z => by rw [hh] at z; cases z))] at h0
        rw [hh] at g0
        obtain ⟨i0, i1⟩ := of_decide_eq_true g0.symm
        clear k2 k1
        wtm_at "w"
        refine ⟨a, rs, p.w, rfl, hr2, th, ro, fun l H3 k3 hl => ?_⟩
        wtm_at "w"
        refine vx_tup hl (at_map (n := (listN rs p.w).getD p.i.toNat 0) i0 ?_) ?_
        · rw [List.getD_eq_getElem?_getD, List.getElem?_eq_getElem (by omega)]; rfl
        · have := q H3 (k02.tr0 k3)
          rw [h0] at this
          exact this
def sp_holds (K : PySem.W.Frag) (C : Addr) : Sp := fun vs H Q _ => ∃ (m a pa : Addr) (n f : Int) (rs : List Int) (p : Pl) (d : Int), vs = [.ref m, .ref a, .ref pa, .int d] ∧ Mx C H m n f ∧ 0 < n ∧ SqT K H a (rs.map V.int) ∧ PlAt K H pa p ∧ isThing rs = true ∧ RowOk rs ∧ ∀ H', Kp [] H H' → Q (.bl (holdsB n f rs p d)) H'
theorem ok_holds (T : Txt P w K mg base) : DefOk P w K mg base "holds" ["mixing", "row", "place", "digest"] 5 (sp_holds K T.C_Mixing) := by
  refine DefOk.by T.d_holds sc_holds oc_holds (fun vs H Q E h => ?_) (fun X e1 e2 e3 e4 e5 C H vs Q E h => ?_)
  · obtain ⟨m, a, pa, n, f, rs, p, d, rfl, _⟩ := h; rfl
  · obtain ⟨m, a, pa, n, f, rs, p, d, rfl, hm, hn, hr, hpl, th, ro, q⟩ := h
    have h0 : holdsB n f rs p d = if p.w = ("entry" : Str) then hasPl rs p && decide (climbO n f (rs.getD 4 0).toNat p.i.toNat d p.way = some (rs.getD 5 0)) else decide (heldO rs p = some d) := rfl
    have g0 : hasPl rs p = if p.w = ("entry" : Str) then decide (rs.getD 0 0 = 4 ∧ 0 ≤ p.i ∧ p.i < rs.getD 4 0) else decide (0 ≤ p.i ∧ p.i < (listN rs p.w).length) := rfl
    obtain ⟨r, hpa, hx⟩ := id hpl
    wtm_at "go"
    wtm_at "w"
    refine ite_nd (fun h1 => ?_) (fun h1 => ?_)
    · rw [if_neg h1] at h0
      wtm_at "w"
      refine ⟨_, a, pa, rs, p, rfl, hr, hpl, th, ro, fun H1 k1 => ?_⟩
      wtm_at "w"
      have := q H1 k1
      rw [h0] at this
      refine ⟨_, op_eq, ?_, ?_⟩
      · cases heldO rs p <;> rfl
      · have e : decide (optV (heldO rs p) = V.int d) = decide (heldO rs p = some d) := by cases heldO rs p <;> simp [optV]
        rw [e]; exact this
    · rw [if_pos h1] at h0 g0
      wtm_at "w"
      refine ⟨a, pa, rs, p, rfl, hr, hpl, th, ro, fun H1 k1 => ?_⟩
      have hr1 := k1.tup hr
      have hp1 := k1.tup hpa
      have hm1 := hm.kp k1
      obtain ⟨wa, er, hw⟩ := hx h1
      have hw1 := k1.tup hw
      cases hh : hasPl rs p with
      | false =>
        rw [hh] at h0
        wtm_at "w"
        have := q H1 k1
        rw [h0] at this
        exact this
      | true =>
        rw [hh] at h0 g0
        obtain ⟨i4, i0, i1⟩ := of_decide_eq_true g0.symm
        obtain ⟨h6, c1, _⟩ := isThing_hd th i4
        have f4 := ro.four i4
        subst er
        wtm_at "w"
        refine xg_tup C ⟨pa, _, rfl, hp1, rfl, ?_⟩
        wtm_at "w"
        refine xs_asg ?_
        wtm_at "w"
        refine vsl_tup hr1 (fun t H2 k2 ht => ?_)
        rw [cut46g h6] at ht
        have hw2 := k2.tup hw1
        have hm2 := hm1.kp k2
        have k02 := k1.tr0 k2
        clear k1 k2
        refine xg_tup C ⟨t, _, rfl, ht, rfl, ?_⟩
        wtm_at "w"
        refine ⟨m, wa, n, f, (rs.getD 4 0).toNat, p.i.toNat, d, p.way, by rw [Int.toNat_of_nonneg (by omega), Int.toNat_of_nonneg i0], hm2, hw2, by omega, by omega, by omega, hn, fun H3 k3 => ?_⟩
        wtm_at "w"
        have := q H3 (k02.tr0 k3)
        rw [h0, Bool.true_and] at this
        unfold climbO at this
        by_cases hl : (tn (rs.getD 4 0).toNat p.i.toNat).length = p.way.length
        · rw [if_pos hl] at this ⊢
          refine vo_eq ?_
          have e : decide (cl n f (tn (rs.getD 4 0).toNat p.i.toNat) d p.way = rs.getD 5 0) = decide (some (cl n f (tn (rs.getD 4 0).toNat p.i.toNat) d p.way) = some (rs.getD 5 0)) := by apply decide_eq_decide.mpr; simp
          rw [e]; exact this
        · rw [if_neg hl] at this ⊢
          refine ⟨_, op_eq, rfl, ?_⟩
          have e : decide (V.non = V.int (rs.getD 5 0)) = decide ((none : Option Int) = some (rs.getD 5 0)) := by simp
          rw [e]; exact this
def sp_rr (K : PySem.W.Frag) : Sp := fun vs H Q _ => ∃ (b a pa : Addr) (bs rs : List Int) (p : Pl), vs = [.ref b, .ref a, .ref pa] ∧ SqT K H b (bs.map V.int) ∧ SqT K H a (rs.map V.int) ∧ PlAt K H pa p ∧ isThing bs = true ∧ isThing rs = true ∧ RowOk rs ∧ hasPl rs p = true ∧ ∀ H', Kp [] H H' → Q (.bl (rrB bs rs p)) H'
theorem ok_is_right_round (T : Txt P w K mg base) : DefOk P w K mg base "is_right_round" ["before", "row", "place"] 2 (sp_rr K) := by
  refine DefOk.by T.d_is_right_round sc_is_right_round oc_is_right_round (fun vs H Q E h => ?_) (fun X e1 e2 e3 e4 e5 C H vs Q E h => ?_)
  · obtain ⟨b, a, pa, bs, rs, p, rfl, _⟩ := h; rfl
  · obtain ⟨b, a, pa, bs, rs, p, rfl, hb, hr, hpl, tb, th, ro, hh, q⟩ := h
    have h0 : rrB bs rs p = if p.w = ("back" : Str) then decide (bs.getD 0 0 = 4 ∧ bs.getD 1 0 = rs.getD 1 0 ∧ bs.getD 2 0 = rs.getD 2 0 - 2 ^ p.i.toNat ∧ bs.getD 3 0 < rs.getD 3 0) else true := rfl
    obtain ⟨r, hpa, hx⟩ := id hpl
    wtm_at "go"
    refine xs_asg ?_
    wtm_at "w"
    refine vsl_tup hpa (fun t H1 k1 ht => ?_)
    rw [cut2] at ht
    have hr1 := k1.tup hr
    have hb1 := k1.tup hb
    refine xg_tup C ⟨t, _, rfl, ht, rfl, ?_⟩
    wtm_at "w"
    refine ite_nd (fun h1 => ?_) (fun h1 => ?_)
    · rw [if_neg h1] at h0
      wtm_at "w"
      have := q H1 k1
      rw [h0] at this
      exact this
    · rw [if_pos h1] at h0
      obtain ⟨r4, i0, i1⟩ := hasPl_back hh h1
      rw [List.length_drop] at i1
      obtain ⟨r6, _⟩ := isThing_hd th r4
      have rl := ro.len
      wtm_at "w"
      refine ⟨b, bs, rfl, hb1, isThing_pos tb, ?_⟩
      wtm_at "w"
      refine ite_nd (fun h2 => ?_) (fun h2 => ?_)
      · wtm_at "w"
        have := q H1 k1
        rw [h0, decide_eq_false (fun z => h2 z.1)] at this
        exact this
      · obtain ⟨b6, _⟩ := isThing_hd tb h2
        wtm_at "w"
        refine xs_asg ?_
        wtm_at "w"
        refine vsl_tup hr1 (fun t2 H2 k2 ht2 => ?_)
        rw [cut14 (by omega)] at ht2
        have hb2 := k2.tup hb1
        have k02 := k1.tr0 k2
        clear k1 k2
        refine xg_tup C ⟨t2, _, rfl, ht2, rfl, ?_⟩
        wtm_at "w"
        refine xs_asg ?_
        wtm_at "w"
        refine vsl_tup hb2 (fun t3 H3 k3 ht3 => ?_)
        rw [cut14 (by omega)] at ht3
        have k03 := k02.tr0 k3
        clear k02 k3
        refine xg_tup C ⟨t3, _, rfl, ht3, rfl, ?_⟩
        wtm_at "w"
        refine vo_shl ⟨i0, by omega, by decide⟩ ?_
        rw [Int.one_mul]
        wtm_at "w"
        have := q H3 k03
        rw [h0] at this
        refine ite_d (fun c1 => ?_) (fun c1 => ?_)
        · wtm_at "w"
          refine ite_d (fun c2 => ?_) (fun c2 => ?_)
          · wtm_at "w"
            have e : decide (bs.getD 3 0 < rs.getD 3 0) = decide (bs.getD 0 0 = 4 ∧ bs.getD 1 0 = rs.getD 1 0 ∧ bs.getD 2 0 = rs.getD 2 0 - 2 ^ p.i.toNat ∧ bs.getD 3 0 < rs.getD 3 0) := by apply decide_eq_decide.mpr; exact ⟨fun z => ⟨h2, c1, c2, z⟩, fun z => z.2.2.2⟩
            rw [e]; exact this
          · rw [decide_eq_false (fun z => c2 z.2.2.1)] at this
            rw [decide_eq_false c2]; exact this
        · rw [decide_eq_false (fun z => c1 z.2.1)] at this
          rw [decide_eq_false c1]; exact this
end
/-! step -/
/-! a step's fault -/
def stepWhy (n f : Int) (bs rs : List Int) (p : Pl) : Option Str :=
  if isThing rs = true then (if hasPl rs p = true then (if holdsB n f rs p (dig n f bs) = true then (if rrB bs rs p = true then none else some ("another round" : Str)) else some ("not this digest" : Str)) else some ("no such place" : Str)) else some ("not a thing" : Str)
abbrev Stp := List Int × Pl
def stpD (s : Stp) : PyData := .tuple [.tuple (s.1.map PyData.int), plD s.2]
def ffault (n f : Int) : Nat → List Int → List Stp → Option (Nat × Str)
  | _, _, [] => none
  | k, bs, s :: r => match stepWhy n f bs s.1 s.2 with
    | some w => some (k, w)
    | none => ffault n f (k + 1) s.1 r
def papFault (n f : Int) (first : List Int) (ss : List Stp) : Option (Nat × Str) := if isThing first = true then ffault n f 1 first ss else some (0, ("not a thing" : Str))
/-- steps that are links, one behind the other -/
def okW (n f : Int) : List Int → List Stp → Prop
  | _, [] => True
  | bs, s :: r => stepWhy n f bs s.1 s.2 = none ∧ okW n f s.1 r
def lastR : List Int → List Stp → List Int
  | bs, [] => bs
  | _, s :: r => lastR s.1 r
theorem okW.ff {n f : Int} : ∀ {ss : List Stp} {bs : List Int} (k : Nat), okW n f bs ss → ffault n f k bs ss = none
  | [], _, _, _ => rfl
  | s :: r, bs, k, h => by rw [ffault, h.1]; exact okW.ff (k + 1) h.2
theorem lastR_at : ∀ (ss : List Stp) (bs : List Int), (bs :: ss.map (·.1))[ss.length]? = some (lastR bs ss)
  | [], bs => rfl
  | s :: r, bs => by
    show (s.1 :: r.map (·.1))[r.length]? = _
    exact lastR_at r s.1
theorem lastR_app : ∀ (a b : List Stp) (bs : List Int), lastR bs (a ++ b) = lastR (lastR bs a) b
  | [], b, bs => rfl
  | s :: r, b, bs => lastR_app r b s.1
theorem okW_app {n f : Int} : ∀ {a b : List Stp} {bs : List Int}, okW n f bs a → okW n f (lastR bs a) b → okW n f bs (a ++ b)
  | [], _, _, _, h => h
  | s :: r, b, bs, h, g => ⟨h.1, okW_app h.2 g⟩
/-! papF -/
section
local macro_rules | `(tactic| wtm_at "d") => `(tactic| first | ((with_reducible show Z.XE _ (PySem.Expr.Call (PySem.Expr.Name "list" _) (_ :: _) [] _) _ _ _); refine Z.xe_callTy (id := "list") (by assumption) (by wtm_at "m") T.b_list (by decide +kernel) ?_) | ((with_reducible show Z.XE _ (PySem.Expr.Name "list" _) _ _ _); refine Z.xe_ty (id := "list") (by assumption) (by wtm_at "m") T.b_list (by decide +kernel) ?_) | fail)
def papF (fr : V) (st : Addr) : List (Str × V) := putF "steps" (.ref st) (putF "first" fr [])
theorem pap_f (fr : V) (st : Addr) : (papF fr st).lookup ("first" : Str) = some fr := by
  unfold papF; rw [lookup_putF, if_neg (by decide +kernel), lookup_putF, if_pos rfl]
theorem pap_s (fr : V) (st : Addr) : (papF fr st).lookup ("steps" : Str) = some (.ref st) := by
  unfold papF; rw [lookup_putF, if_pos rfl]
def sp_Paper (K : PySem.W.Frag) (C : Addr) : Sp := fun vs H Q _ => ∃ (z dx l : Addr) (fr : V) (xs : List V), vs = [.ref z, fr, .ref l] ∧ H z = some (.ins C dx []) ∧ SqL K H l xs ∧ ∀ st H', Kp [z] H H' → H' z = some (.ins C dx (papF fr st)) → H st = none → H' st = some (.lst xs) → Q .non H'
theorem ok_Paper (T : Txt P w K mg base) : ClsOk P w K mg base "Paper" T.C_Paper ["self", "first", "steps"] 1 (sp_Paper K T.C_Paper) := by
  obtain ⟨f, fd, M, F, b⟩ := T.mk_Paper
  refine ⟨f, fd, fnOk_by F sc_Paper___init__ oc_Paper___init__ (fun vs H Q E h => ?_) (fun X e1 e2 e3 e4 e5 C H vs Q E h => ?_), T.mg_Paper, M, b⟩
  · obtain ⟨z, dx, l, fr, xs, rfl, _⟩ := h; rfl
  · obtain ⟨z, dx, l, fr, xs, rfl, h1, hl, q⟩ := h
    wtm_at "go"
    refine xs_fld ?_
    wtm_at "w"
    refine ⟨z, _, dx, _, rfl, h1, T.cl_Paper, T.na_Paper_first, by decide, fun H1 k1 e1 => ?_⟩
    have hl1 : SqL X.K H1 l xs := by
      rcases hl with (h | ⟨o, h⟩) | h
      · exact .inl (.inl (k1.at1 (fun e => by rw [e, h1] at h; cases h) h))
      · exact .inl (.inr ⟨o, k1.z _ _ _ h⟩)
      · exact .inr h
    wtm_at "w"
    refine xs_fld ?_
    wtm_at "w"
    refine vc_listL hl1 (fun st H2 k2 n2 h2 => ?_)
    wtm_at "w"
    refine ⟨z, _, dx, _, rfl, k2.at0 e1, T.cl_Paper, T.na_Paper_steps, by show 1 < 1000; decide, fun H3 k3 e3 => ?_⟩
    wtm_at "w"
    exact q st H3 ((k1.tr0 k2).tr1 k3 (.inl (by simp))) e3 (k1.n _ n2) (k3.at1 (ne_of_none e1 n2).symm h2)
end
/-! ppat -/
/-- a paper at p -/
def PpAt (K : PySem.W.Frag) (CP : Addr) (H : Hp) (p : Addr) (first : List Int) (ss : List Stp) : Prop := ∃ (dx fr st : Addr) (vs : List V), H p = some (.ins CP dx (papF (.ref fr) st)) ∧ H st = some (.lst vs) ∧ DpAll K H vs (ss.map stpD) ∧ SqT K H fr (first.map V.int)
theorem PpAt.kp {K : PySem.W.Frag} {CP : Addr} {H H' : Hp} {p : Addr} {first : List Int} {ss : List Stp} (h : PpAt K CP H p first ss) (k : Kp [] H H') : PpAt K CP H' p first ss := by
  obtain ⟨dx, fr, st, vs, h1, h2, h3, h4⟩ := h
  exact ⟨dx, fr, st, vs, k.at0 h1, k.at0 h2, dpAll_kp k h3, k.tup h4⟩
/-! accept -/
section
local macro_rules | `(tactic| wtm_at "d") => `(tactic| first | ((with_reducible show Z.XE _ (PySem.Expr.Call (PySem.Expr.Name "enumerate" _) (_ :: _) [] _) _ _ _); refine Z.xe_callB (id := "enumerate") (by assumption) (by wtm_at "m") T.b_enumerate (by decide +kernel) ?_) | ((with_reducible show Z.XE _ (PySem.Expr.Call (PySem.Expr.Name "digest" _) (_ :: _) [] _) _ _ _); refine Z.xe_call (by assumption) (Law.ok_digest T) (by wtm_at "m") (by omega) ?_) | ((with_reducible show Z.XE _ (PySem.Expr.Call (PySem.Expr.Name "is_thing" _) (_ :: _) [] _) _ _ _); refine Z.xe_call (by assumption) (Law.ok_is_thing T) (by wtm_at "m") (by omega) ?_) | ((with_reducible show Z.XE _ (PySem.Expr.Call (PySem.Expr.Name "has_place" _) (_ :: _) [] _) _ _ _); refine Z.xe_call (by assumption) (Law.ok_has_place T) (by wtm_at "m") (by omega) ?_) | ((with_reducible show Z.XE _ (PySem.Expr.Call (PySem.Expr.Name "holds" _) (_ :: _) [] _) _ _ _); refine Z.xe_call (by assumption) (Law.ok_holds T) (by wtm_at "m") (by omega) ?_) | ((with_reducible show Z.XE _ (PySem.Expr.Call (PySem.Expr.Name "is_right_round" _) (_ :: _) [] _) _ _ _); refine Z.xe_call (by assumption) (Law.ok_is_right_round T) (by wtm_at "m") (by omega) ?_) | ((with_reducible show Z.XE _ (PySem.Expr.Call (PySem.Expr.Name "_fault_of_step" _) (_ :: _) [] _) _ _ _); refine Z.xe_call (by assumption) (Law.ok__fault_of_step T) (by wtm_at "m") (by omega) ?_) | fail)
/-! papers: the first fault -/
def sp_fos (K : PySem.W.Frag) (C : Addr) : Sp := fun vs H Q _ => ∃ (m b a pa : Addr) (n f : Int) (bs rs : List Int) (p : Pl), vs = [.ref m, .ref b, .ref a, .ref pa] ∧ Mx C H m n f ∧ 0 < n ∧ SqT K H b (bs.map V.int) ∧ SqT K H a (rs.map V.int) ∧ PlAt K H pa p ∧ isThing bs = true ∧ RowOk rs ∧ ∀ H', Kp [] H H' → Q (whyV (stepWhy n f bs rs p)) H'
theorem ok__fault_of_step (T : Txt P w K mg base) : DefOk P w K mg base "_fault_of_step" ["mixing", "before", "row", "place"] 6 (sp_fos K T.C_Mixing) := by
  refine DefOk.by T.d__fault_of_step sc__fault_of_step oc__fault_of_step (fun vs H Q E h => ?_) (fun X e1 e2 e3 e4 e5 C H vs Q E h => ?_)
  · obtain ⟨m, b, a, pa, n, f, bs, rs, p, rfl, _⟩ := h; rfl
  · obtain ⟨m, b, a, pa, n, f, bs, rs, p, rfl, hm, hn, hb, hr, hpl, tb, ro, q⟩ := h
    have s0 : stepWhy n f bs rs p = if isThing rs = true then (if hasPl rs p = true then (if holdsB n f rs p (dig n f bs) = true then (if rrB bs rs p = true then none else some ("another round" : Str)) else some ("not this digest" : Str)) else some ("no such place" : Str)) else some ("not a thing" : Str) := rfl
    wtm_at "go"
    wtm_at "w"
    refine ⟨a, rs, rfl, hr, ?_⟩
    cases th : isThing rs with
    | false =>
      rw [th] at s0
      wtm_at "w"
      refine xe_str ?_
      have := q H (Kp.refl _ _)
      rw [show stepWhy n f bs rs p = some ("not a thing" : Str) from s0] at this
      exact this
    | true =>
    rw [th, if_pos rfl] at s0
    wtm_at "w"
    refine ⟨a, pa, rs, p, rfl, hr, hpl, th, ro, fun H1 k1 => ?_⟩
    have hr1 := k1.tup hr
    have hb1 := k1.tup hb
    have hp1 := hpl.kp k1
    have hm1 := hm.kp k1
    cases hh : hasPl rs p with
    | false =>
      rw [hh] at s0
      wtm_at "w"
      refine xe_str ?_
      have := q H1 k1
      rw [show stepWhy n f bs rs p = some ("no such place" : Str) from s0] at this
      exact this
    | true =>
    rw [hh, if_pos rfl] at s0
    have hid1 : Kp [] H H1 ∧ True := ⟨k1, trivial⟩
    clear k1
    wtm_at "w"
    refine ⟨m, b, n, f, bs, rfl, hm1, hb1, hn, ?_⟩
    wtm_at "w"
    refine ⟨m, a, pa, n, f, rs, p, _, rfl, hm1, hn, hr1, hp1, th, ro, fun H2 k2 => ?_⟩
    have hr2 := k2.tup hr1
    have hb2 := k2.tup hb1
    have hp2 := hp1.kp k2
    have k02 := hid1.1.tr0 k2
    clear k2
    cases ho : holdsB n f rs p (dig n f bs) with
    | false =>
      rw [ho] at s0
      wtm_at "w"
      refine xe_str ?_
      have := q H2 k02
      rw [show stepWhy n f bs rs p = some ("not this digest" : Str) from s0] at this
      exact this
    | true =>
    rw [ho, if_pos rfl] at s0
    have hid2 : Kp [] H H2 ∧ True := ⟨k02, trivial⟩
    clear k02
    wtm_at "w"
    refine ⟨b, a, pa, bs, rs, p, rfl, hb2, hr2, hp2, tb, th, ro, hh, fun H3 k3 => ?_⟩
    have := q H3 (hid2.1.tr0 k3)
    cases hq : rrB bs rs p with
    | false =>
      rw [hq] at s0
      wtm_at "w"
      refine xe_str ?_
      rw [show stepWhy n f bs rs p = some ("another round" : Str) from s0] at this
      exact this
    | true =>
      rw [hq, if_pos rfl] at s0
      wtm_at "w"
      rw [s0] at this
      exact this
def sp_ffault (K : PySem.W.Frag) (CM CP : Addr) : Sp := fun vs H Q _ => ∃ (m p : Addr) (n f : Int) (first : List Int) (ss : List Stp), vs = [.ref m, .ref p] ∧ Mx CM H m n f ∧ 0 < n ∧ PpAt K CP H p first ss ∧ (∀ s ∈ ss, RowOk s.1) ∧
  (∀ k w, papFault n f first ss = some (k, w) → ∀ q H', Kp [] H H' → SqT K H' q [.int (k : Int), .str w] → Q (.ref q) H') ∧ (papFault n f first ss = none → ∀ H', Kp [] H H' → Q .non H')
theorem ok__first_fault (T : Txt P w K mg base) : DefOk P w K mg base "_first_fault" ["mixing", "paper"] 7 (sp_ffault K T.C_Mixing T.C_Paper) := by
  refine DefOk.by T.d__first_fault sc__first_fault oc__first_fault (fun vs H Q E h => ?_) (fun X e1 e2 e3 e4 e5 C H vs Q E h => ?_)
  · obtain ⟨m, p, n, f, first, ss, rfl, _⟩ := h; rfl
  · obtain ⟨m, p, n, f, first, ss, rfl, hm, hn, hp, ro, q1, q2⟩ := h
    obtain ⟨dx, fr, st, vs, h1, h2, h3, h4⟩ := hp
    have f0 : papFault n f first ss = if isThing first = true then ffault n f 1 first ss else some (0, ("not a thing" : Str)) := rfl
    wtm_at "go"
    wtm_at "w"
    refine xe_fld ?_
    wtm_at "w"
    refine ⟨p, _, dx, _, _, rfl, h1, T.cl_Paper, T.na_Paper_first, pap_f _ _, ?_⟩
    wtm_at "w"
    refine ⟨fr, first, rfl, h4, ?_⟩
    cases th : isThing first with
    | false =>
      rw [th] at f0
      wtm_at "w"
      refine xe_str ?_
      wtm_at "w"
      intro t H1 k1 ht _
      exact q1 0 _ f0 t H1 k1 ht
    | true =>
    rw [th, if_pos rfl] at f0
    wtm_at "w"
    refine xe_fld ?_
    wtm_at "w"
    refine ⟨p, _, dx, _, _, rfl, h1, T.cl_Paper, T.na_Paper_first, pap_f _ _, ?_⟩
    wtm_at "w"
    refine xs_forES (by assumption) (by decide) (by decide) (by wtm_at "m") T.b_enumerate ?_
    refine xa_cons ?_
    refine xe_fld ?_
    wtm_at "w"
    refine ⟨p, _, dx, _, _, rfl, h1, T.cl_Paper, T.na_Paper_steps, pap_s _ _, ?_⟩
    wtm_at "w"
    have lv : vs.length = ss.length := by rw [dpAll_len h3, List.length_map]
    refine ⟨st, vs, rfl, Z.SqL.of' h2, fun i σ H' => ∃ (ba : Addr) (bs : List Int) (v1 v2 v3 v4 : Option V), σ = [some (.ref m), some (.ref p), some (.ref ba), v1, v2, v3, v4] ∧ Kp [] H H' ∧ SqT X.K H' ba (bs.map V.int) ∧ isThing bs = true ∧ ffault n f 1 first ss = ffault n f (1 + i) bs (ss.drop i), ⟨fr, first, _, _, _, _, rfl, Kp.refl _ _, h4, th, rfl⟩, ?_, ?_, ?_⟩
    · rintro i σ' H' _ ⟨ba, bs, v1, v2, v3, v4, rfl, k, _⟩
      exact k.lst0 (Z.SqL.of' h2)
    · rintro i y t σ' H1 H2 hy ⟨ba, bs, v1, v2, v3, v4, rfl, k1, hb, tb, ef⟩ k2 ht
      have hi : i < ss.length := by rw [← lv]; exact (List.getElem?_eq_some_iff.mp hy).1
      have k02 := k1.tr0 k2
      have hs : (ss.map stpD)[i]? = some (stpD ss[i]) := by rw [List.getElem?_map, List.getElem?_eq_getElem hi]; rfl
      obtain ⟨y', hy', hd⟩ := dpAll_at (dpAll_kp k02 h3) hs
      have ey : y' = y := Option.some.inj (hy'.symm.trans hy)
      subst ey
      have roi := ro ss[i] (List.getElem_mem hi)
      have ed : ss.drop i = ss[i] :: ss.drop (i + 1) := List.drop_eq_getElem_cons hi
      rw [ed] at ef
      generalize ss[i] = s at hd roi ef
      obtain ⟨rs, pl⟩ := s
      obtain ⟨sa, us, rfl, hsa, da⟩ := dp_tupI hd
      obtain ⟨x1, x2, rfl, d1, d2⟩ := dpAll2 da
      obtain ⟨ra, rfl, hra⟩ := dp_Tinv d1
      obtain ⟨pa, rfl, hpa⟩ := PlAt.of d2
      have hb2 := k2.tup hb
      have hm2 := hm.kp k02
      have s0 := ef
      clear k1 k2 hb
      refine xg_tup C ⟨t, _, rfl, ht, rfl, ?_⟩
      wtm_at "w"
      refine xg_tup C ⟨sa, _, rfl, hsa, rfl, ?_⟩
      have hid : Kp [] H H2 ∧ True := ⟨k02, trivial⟩
      clear k02
      wtm_at "w"
      refine ⟨m, ba, ra, pa, n, f, bs, rs, pl, rfl, hm2, hn, hb2, hra, hpa, tb, roi, fun H3 k3 => ?_⟩
      have hra3 := k3.tup hra
      have k03 := hid.1.tr0 k3
      clear k3
      cases hw : stepWhy n f bs rs pl with
      | some w =>
        have ef2 : papFault n f first ss = some (1 + i, w) := by rw [f0, ef, ffault, hw]
        refine ⟨_, by wtm_at "u", ?_⟩
        unfold whyV
        wtm_at "w"
        refine ite_nd (fun _ => ?_) (fun h => nomatch h)
        wtm_at "w"
        intro t4 H4 k4 h4' _
        refine q1 (1 + i) w ef2 t4 H4 (k03.tr0 k4) ?_
        rw [show ((1 + i : Nat) : Int) = 1 + (i : Int) by omega]
        exact h4'
      | none =>
        have ef2 : ffault n f 1 first ss = ffault n f (1 + (i + 1)) rs (ss.drop (i + 1)) := by
          rw [ef, ffault, hw, show 1 + i + 1 = 1 + (i + 1) by omega]
        have ti : isThing rs = true := by
          unfold stepWhy at hw
          cases e : isThing rs with
          | true => rfl
          | false => rw [e] at hw; cases hw
        refine ⟨_, by wtm_at "u", ?_⟩
        unfold whyV
        wtm_at "w"
        refine ite_nd (fun h => absurd rfl h) (fun _ => ?_)
        wtm_at "w"
        exact ⟨ra, rs, _, _, _, _, rfl, k03, hra3, ti, ef2⟩
    · rintro σ' H1 ⟨ba, bs, v1, v2, v3, v4, rfl, k1, hb, tb, ef⟩
      rw [lv, List.drop_length] at ef
      wtm_at "w"
      exact q2 (by rw [f0, ef]; rfl) H1 k1
end
/-! is_acc -/
section
local macro_rules | `(tactic| wtm_at "d") => `(tactic| first | ((with_reducible show Z.XE _ (PySem.Expr.Call (PySem.Expr.Name "_first_fault" _) (_ :: _) [] _) _ _ _); refine Z.xe_call (by assumption) (Law.ok__first_fault T) (by wtm_at "m") (by omega) ?_) | fail)
def sp_accepted (K : PySem.W.Frag) (CM CP : Addr) : Sp := fun vs H Q _ => ∃ (m p : Addr) (n f : Int) (first : List Int) (ss : List Stp), vs = [.ref m, .ref p] ∧ Mx CM H m n f ∧ 0 < n ∧ PpAt K CP H p first ss ∧ (∀ s ∈ ss, RowOk s.1) ∧ ∀ H', Kp [] H H' → Q (.bl (decide (papFault n f first ss = none))) H'
theorem ok_is_accepted (T : Txt P w K mg base) : DefOk P w K mg base "is_accepted" ["mixing", "paper"] 8 (sp_accepted K T.C_Mixing T.C_Paper) := by
  refine DefOk.by T.d_is_accepted sc_is_accepted oc_is_accepted (fun vs H Q E h => ?_) (fun X e1 e2 e3 e4 e5 C H vs Q E h => ?_)
  · obtain ⟨m, p, n, f, first, ss, rfl, _⟩ := h; rfl
  · obtain ⟨m, p, n, f, first, ss, rfl, hm, hn, hp, ro, q⟩ := h
    wtm_at "go"
    wtm_at "w"
    refine ⟨m, p, n, f, first, ss, rfl, hm, hn, hp, ro, fun k w e t H1 k1 ht => ?_, fun e H1 k1 => ?_⟩
    · wtm_at "w"
      have := q H1 k1
      rw [decide_eq_false (by rw [e]; simp)] at this
      rw [decide_eq_false (by simp)]
      exact this
    · wtm_at "w"
      have := q H1 k1
      rw [decide_eq_true e] at this
      rw [decide_eq_true rfl]
      exact this
end
/-! lcd -/
/-- data listed one after another into the new list at L -/
def LcD (K : PySem.W.Frag) (H0 : Hp) (L : Addr) (ds : List PyData) (t : Nat) (H' : Hp) : Prop := Kp [] H0 H' ∧ ∃ us, H' L = some (.lst us) ∧ DpAll K H' us (ds.take t)
theorem LcD.start {K : PySem.W.Frag} {H0 H1 : Hp} {L : Addr} {ds : List PyData} (k : Kp [] H0 H1) (h : H1 L = some (.lst [])) : LcD K H0 L ds 0 H1 := ⟨k, [], h, .nil⟩
theorem LcD.fin {K : PySem.W.Frag} {H0 H3 H4 : Hp} {L : Addr} {ds : List PyData} {t : Nat} {d : PyData} {z : V} (I : LcD K H0 L ds t H3) (nL : H0 L = none) (k : Kp [] H3 H4) (hn : noLs ds = true) (hd : ds[t]? = some d) (hz : Dp K H4 z d) (ht : t < 100000) :
    ∃ acc, H4 L = some (.lst acc) ∧ acc.length < sizeLine ∧ ∀ H5, Kp [L] H4 H5 → H5 L = some (.lst (acc ++ [z])) → LcD K H0 L ds (t + 1) H5 := by
  obtain ⟨k0, us, hL, hu⟩ := I
  have lu := dpAll_len hu
  rw [List.length_take] at lu
  refine ⟨us, k.at0 hL, szl (by omega), fun H5 k5 h5 => ⟨(k0.tr0 k).tr1 k5 (.inr nL), _, h5, ?_⟩⟩
  rw [List.take_add_one, hd]
  refine dpAll_app (dpAll_kpT k5 (noLs_take _ hn) (dpAll_kp k hu)) (.cons (dp_kpT k5 ?_ hz) .nil)
  clear hu lu hz
  induction ds generalizing t with
  | nil => simp at hd
  | cons x r ih =>
    simp only [noLs, Bool.and_eq_true] at hn
    cases t with
    | zero =>
      have : x = d := by simpa using hd
      rw [← this]; exact hn.1
    | succ t => exact ih hn.2 (by simpa using hd) (by omega)
/-! thT -/
/-! drawn things are things -/
theorem Th.thing {n f : Int} {row es : List Int} (h : Th n f row es) : isThing row = true := by
  cases h with
  | beacon h v => simp [isThing, rowB]
  | doc cs bs =>
    unfold isThing rowD
    rw [if_neg (by simp), if_neg (by show ¬ (2 : Int) = 1; decide), if_pos (by rfl)]
    apply decide_eq_true
    refine ⟨by simp, ?_⟩
    show 2 + (cs.length : Int) ≤ _
    simp; omega
  | renew d => simp [isThing, rowR]
  | head s k h es bs s0 s1 k0 k1 h0 e1 e5 eb =>
    unfold isThing rowH
    rw [if_neg (by simp), if_neg (by show ¬ (4 : Int) = 1; decide), if_neg (by show ¬ (4 : Int) = 2; decide), if_pos (by rfl)]
    apply decide_eq_true
    refine ⟨by simp, ?_, ?_⟩
    · show 1 ≤ (es.length : Int); omega
    · show _ = 6 + cntB k
      simp [eb]; omega
theorem Th.hd {n f : Int} {row es : List Int} (h : Th n f row es) (e : row.getD 0 0 = 4) : ∃ (s k hh : Int) (bs : List Int), row = rowH n f s k hh es bs ∧ 1 ≤ es.length ∧ es.length ≤ 60 := by
  cases h with
  | beacon => exact absurd e (by show ¬ (1 : Int) = 4; decide)
  | doc => exact absurd e (by show ¬ (2 : Int) = 4; decide)
  | renew => exact absurd e (by show ¬ (5 : Int) = 4; decide)
  | head s k h es bs s0 s1 k0 k1 h0 e1 e5 eb => exact ⟨s, k, h, bs, rfl, e1, by omega⟩
theorem Th.nohd {n f : Int} {row es : List Int} (h : Th n f row es) (e : ¬ row.getD 0 0 = 4) : es = [] := by
  cases h with
  | beacon => rfl
  | doc => rfl
  | renew => rfl
  | head s k h es bs => exact absurd (by show (4 : Int) = 4; rfl) e
theorem Th.two {n f : Int} {row es : List Int} (h : Th n f row es) (e : row.getD 0 0 = 4) : 0 ≤ row.getD 2 0 ∧ row.getD 2 0 ≤ 64 := by
  cases h with
  | beacon => exact absurd e (by show ¬ (1 : Int) = 4; decide)
  | doc => exact absurd e (by show ¬ (2 : Int) = 4; decide)
  | renew => exact absurd e (by show ¬ (5 : Int) = 4; decide)
  | head s k h es bs s0 s1 k0 k1 => exact ⟨k0, k1⟩
theorem Th.ok {n f : Int} {row es : List Int} (h : Th n f row es) : RowOk row := by
  refine ⟨by have := h.len; omega, ?_, fun e => ?_⟩
  · cases h with
    | beacon h v h0 => exact h0
    | doc cs bs => show 0 ≤ (cs.length : Int); omega
    | renew d d0 => exact d0
    | head s k h es bs s0 => exact s0
  · cases h with
    | beacon h v h0 => exact absurd e (by show ¬ (1 : Int) = 4; decide)
    | doc cs bs => exact absurd e (by show ¬ (2 : Int) = 4; decide)
    | renew d d0 => exact absurd e (by show ¬ (5 : Int) = 4; decide)
    | head s k h es bs s0 s1 k0 k1 h0 e1 e5 => show (es.length : Int) ≤ 2 ^ 68; omega
theorem Th.pos0 {n f : Int} {row es : List Int} (h : Th n f row es) : 0 < row.length := isThing_pos h.thing
/-! placesP -/
/-! a world's places -/
theorem at_getDi {js : List Int} {i : Int} {j : Nat} (e : i = (j : Int)) (h : j < js.length) : atI (js.map V.int) i = some (.int (js.getD j 0)) := by
  subst e; exact at_getD j h
theorem getD_drop {rs : List Int} {a i : Nat} : (rs.drop a).getD i 0 = rs.getD (a + i) 0 := by
  rw [List.getD_eq_getElem?_getD, List.getElem?_drop, List.getD_eq_getElem?_getD]
theorem getD_takeL {rs : List Int} {a i : Nat} (h : i < a) : (rs.take a).getD i 0 = rs.getD i 0 := by
  rw [List.getD_eq_getElem?_getD, List.getElem?_take, if_pos h, List.getD_eq_getElem?_getD]
theorem heldO_by {rs ls : List Int} {p : Pl} (e1 : ¬ p.w = ("entry" : Str)) (hL : listN rs p.w = ls) : heldO rs p = if 0 ≤ p.i ∧ p.i < (ls.length : Int) then some (ls.getD p.i.toNat 0) else none := by
  have hP : hasPl rs p = decide (0 ≤ p.i ∧ p.i < (ls.length : Int)) := by unfold hasPl; rw [if_neg e1, hL]
  unfold heldO
  rw [hP, hL]
  by_cases h : 0 ≤ p.i ∧ p.i < (ls.length : Int)
  · rw [if_pos h, if_neg]
    rintro (z | z)
    · exact e1 z
    · exact of_decide_eq_false z h
  · rw [if_neg h, if_pos (.inr (decide_eq_false h))]
theorem heldO_cite {rs : List Int} {p : Pl} (th : isThing rs = true) (ro : RowOk rs) (hw : p.w = ("cite" : Str)) : heldO rs p = if rs.getD 0 0 = 2 ∧ 0 ≤ p.i ∧ p.i < rs.getD 1 0 then some (rs.getD (2 + p.i.toNat) 0) else none := by
  have e1 : ¬ p.w = ("entry" : Str) := by rw [hw]; decide +kernel
  have e2 : ¬ ("cite" : Str) = ("back" : Str) := by decide +kernel
  have r1 := ro.one
  by_cases h2 : rs.getD 0 0 = 2
  · obtain ⟨l2, l3⟩ := isThing_doc th h2
    have hL : listN rs p.w = (rs.drop 2).take (rs.getD 1 0).toNat := by unfold listN; rw [if_pos ⟨hw, h2⟩]
    have ll : ((rs.drop 2).take (rs.getD 1 0).toNat).length = (rs.getD 1 0).toNat := by rw [List.length_take, List.length_drop]; omega
    rw [heldO_by e1 hL, ll]
    by_cases h3 : 0 ≤ p.i ∧ p.i < rs.getD 1 0
    · rw [if_pos ⟨h3.1, by omega⟩, if_pos ⟨h2, h3⟩, getD_takeL (by omega), getD_drop]
    · rw [if_neg (fun z => h3 ⟨z.1, by omega⟩), if_neg (fun z => h3 z.2)]
  · have hL : listN rs p.w = [] := by unfold listN; rw [if_neg (fun z => h2 z.2), if_neg (fun z => e2 (hw.symm.trans z.1))]
    rw [heldO_by e1 hL, if_neg (fun z => by have := z.2; simp at this; omega), if_neg (fun z => h2 z.1)]
theorem heldO_back {rs : List Int} {p : Pl} (th : isThing rs = true) (hw : p.w = ("back" : Str)) : heldO rs p = if rs.getD 0 0 = 4 ∧ 0 ≤ p.i ∧ p.i < (rs.length : Int) - 6 then some (rs.getD (6 + p.i.toNat) 0) else none := by
  have e1 : ¬ p.w = ("entry" : Str) := by rw [hw]; decide +kernel
  have e2 : ¬ p.w = ("cite" : Str) := by rw [hw]; decide +kernel
  by_cases h4 : rs.getD 0 0 = 4
  · obtain ⟨l6, _⟩ := isThing_hd th h4
    have hL : listN rs p.w = rs.drop 6 := by unfold listN; rw [if_neg (fun z => e2 z.1), if_pos ⟨hw, h4⟩]
    rw [heldO_by e1 hL, List.length_drop]
    by_cases h3 : 0 ≤ p.i ∧ p.i < (rs.length : Int) - 6
    · rw [if_pos ⟨h3.1, by omega⟩, if_pos ⟨h4, h3⟩, getD_drop]
    · rw [if_neg (fun z => h3 ⟨z.1, by omega⟩), if_neg (fun z => h3 z.2)]
  · have hL : listN rs p.w = [] := by unfold listN; rw [if_neg (fun z => e2 z.1), if_neg (fun z => h4 z.2)]
    rw [heldO_by e1 hL, if_neg (fun z => by have := z.2; simp at this; omega), if_neg (fun z => h4 z.1)]
def plpD (x : Pl × Int) : PyData := .tuple [plD x.1, .int x.2]
theorem noL_pl (p : Pl) : noL (plD p) = true := by
  unfold plD
  by_cases e : p.w = ("entry" : Str)
  · rw [if_pos e]; simp [noL, noLs, noLs_ints]
  · rw [if_neg e]; simp [noL, noLs]
theorem noLs_plp : ∀ xs : List (Pl × Int), noLs (xs.map plpD) = true
  | [] => rfl
  | x :: r => by simp [noLs, noL, plpD, noL_pl, noLs_plp r]
def citesN (row : List Int) : List (Pl × Int) := (List.range (row.getD 1 0).toNat).map fun (k : Nat) => (⟨"cite", (k : Int), []⟩, row.getD (2 + k) 0)
def backsN (row : List Int) : List (Pl × Int) := (List.range (row.length - 6)).map fun (k : Nat) => (⟨"back", (k : Int), []⟩, row.getD (6 + k) 0)
def entsN (n f : Int) (es : List Int) : List (Pl × Int) := (List.range es.length).map fun (k : Nat) => (⟨"entry", (k : Int), wy n f es k⟩, es.getD k 0)
def placesN (n f : Int) (row es : List Int) : List (Pl × Int) := if row.getD 0 0 = 2 then citesN row else if row.getD 0 0 = 4 then backsN row ++ entsN n f es else []
theorem plD_two {w : Str} {i : Int} {x : List Int} (h : ¬ w = ("entry" : Str)) : plD ⟨w, i, x⟩ = .tuple [.str w, .int i] := by
  unfold plD; rw [if_neg h]
theorem plD_three {i : Int} {x : List Int} : plD ⟨"entry", i, x⟩ = .tuple [.str "entry", .int i, .tuple (x.map PyData.int)] := by
  unfold plD; rw [if_pos rfl]
/-! _law_way_u -/
section
local macro_rules | `(tactic| wtm_at "d") => `(tactic| first | ((with_reducible show Z.XE _ (PySem.Expr.Call (PySem.Expr.Name "len" _) (_ :: _) [] _) _ _ _); refine Z.xe_callB (id := "len") (by assumption) (by wtm_at "m") T.b_len (by decide +kernel) ?_) | ((with_reducible show Z.XE _ (PySem.Expr.Call (PySem.Expr.Name "list" _) (_ :: _) [] _) _ _ _); refine Z.xe_callTy (id := "list") (by assumption) (by wtm_at "m") T.b_list (by decide +kernel) ?_) | ((with_reducible show Z.XE _ (PySem.Expr.Name "list" _) _ _ _); refine Z.xe_ty (id := "list") (by assumption) (by wtm_at "m") T.b_list (by decide +kernel) ?_) | ((with_reducible show Z.XE _ (PySem.Expr.Call (PySem.Expr.Name "tuple" _) (_ :: _) [] _) _ _ _); refine Z.xe_callTy (id := "tuple") (by assumption) (by wtm_at "m") T.b_tuple (by decide +kernel) ?_) | ((with_reducible show Z.XE _ (PySem.Expr.Name "tuple" _) _ _ _); refine Z.xe_ty (id := "tuple") (by assumption) (by wtm_at "m") T.b_tuple (by decide +kernel) ?_) | ((with_reducible show Z.XE _ (PySem.Expr.Call (PySem.Expr.Name "_law_half" _) (_ :: _) [] _) _ _ _); refine Z.xe_call (by assumption) (Law.ok__law_half T) (by wtm_at "m") (by omega) ?_) | ((with_reducible show Z.XE _ (PySem.Expr.Call (PySem.Expr.Name "_law_root" _) (_ :: _) [] _) _ _ _); refine Z.xe_call (by assumption) (Law.ok__law_root T) (by wtm_at "m") (by omega) ?_) | fail)
def sp_lway (K : PySem.W.Frag) : Sp := fun vs H Q _ => ∃ (m e : Addr) (b f : Int) (es : List Int) (i : Nat), vs = [.ref m, .ref e, .int i] ∧ SqL K H m [.int b, .int f] ∧ SqL K H e (es.map V.int) ∧ i < es.length ∧ es.length ≤ 512 ∧ 0 < b ∧ ∀ t H', Kp [] H H' → SqT K H' t ((wy b f es i).map V.int) → Q (.ref t) H'
theorem ok__law_way (T : Txt P w K mg base) : DefOk P w K mg base "_law_way" ["mix", "entries", "index"] 12 (sp_lway K) := by
  refine DefOk.by T.d__law_way sc__law_way oc__law_way (fun vs H Q E h => ?_) (fun X e1 e2 e3 e4 e5 C H vs Q E h => ?_)
  · obtain ⟨p, e, b, f, es, i, rfl, _⟩ := h; rfl
  · obtain ⟨p, e, b, f, es, i, rfl, hm, he, il, ld, hb, q⟩ := h
    have tl := tn_len 9 es.length i ld
    have wl := wy_len b f 600 es i (by omega)
    wtm_at "go"
    wtm_at "w"
    intro L H1 k1 nL hL
    wtm_at "w"
    refine vc_listL (k1.lst0 he) (fun M H2 k2 nM hM => ?_)
    have hid : Fr [] H H2 := k1.tr0 k2
    have hL2 := k2.at0 hL
    have nL2 : H L = none := nL
    have nM2 : H M = none := k1.n _ nM
    have ne : L ≠ M := ne_of_none hL nM
    clear k1 k2 hL
    wtm_at "w"
    refine xs_forR1 (by assumption) (by wtm_at "m") T.b_range ?_
    wtm_at "w"
    refine vc_lenL (hid.k.lst0 he) ?_
    rw [List.length_map]
    wtm_at "w"
    refine ⟨_, rfl, by omega, by omega, fun t σ H' => ∃ (pr : Addr) (ps ws : List Int) (j : Nat) (v1 v2 : Option V), σ = [some (.ref p), some (.ref e), some (.int j), some (.ref L), some (.ref pr), v1, v2] ∧ Kp [] H H' ∧ H' L = some (.lst (ws.map V.int)) ∧ SqL X.K H' pr (ps.map V.int) ∧ pr ≠ L ∧
      j < ps.length ∧ ps.length ≤ 512 ∧ (ps.length + t ≤ es.length ∨ ps.length = 1) ∧ wy b f es i = wy b f ps j ++ ws.reverse, ⟨M, es, [], i, _, _, rfl, hid.k, hL2, Z.SqL.of' hM, Ne.symm ne, by omega, ld, .inl (by omega), by simp⟩, ?_, ?_⟩
    · rintro t σ' H2 ht ⟨pr, ps, ws, j, v1, v2, rfl, k2, hL, hp, neL, jl, p512, pl, ew⟩
      have lw : ws.length ≤ 9 := by
        have := congrArg List.length ew
        rw [List.length_append, List.length_reverse] at this; omega
      wtm_at "w"
      rw [List.length_map]
      refine ite_d (fun h => ?_) (fun h => ?_)
      · have s2 : 2 ≤ ps.length := by omega
        have lt := hf_lt s2
        have lp := hf_pos ps.length
        wtm_at "w"
        refine ⟨ps.length, by rw [List.length_map], s2, by omega, ?_⟩
        wtm_at "w"
        refine ite_d (fun hj => ?_) (fun hj => ?_)
        · have hj' : ¬ j < hf ps.length := by omega
          wtm_at "w"
          refine vsl_lst hp (fun c2 H6 k6 n6 g6 => ?_)
          rw [cut_take _ _ (by rw [List.length_map]; omega), ← List.map_take] at g6
          wtm_at "w"
          refine ⟨p, c2, b, f, _, rfl, k6.lst0 (k2.lst0 hm), Z.SqL.of' g6, by rw [len_take s2]; omega, by rw [len_take s2]; omega, hb, fun H7 k7 => ?_⟩
          refine ⟨k7.at0 (k6.at0 hL), szl (by rw [List.length_map]; omega), fun H8 k8 h8 => ?_⟩
          wtm_at "w"
          have hp8 : SqL X.K H8 pr (ps.map V.int) := k8.lst1 neL (k7.lst0 (k6.lst0 hp))
          refine vsl_lst hp8 (fun c1 H9 k9 n9 g9 => ?_)
          rw [cut_drop _ _ (by rw [List.length_map]; omega), ← List.map_drop] at g9
          wtm_at "w"
          have e1 : ((j : Int) - (hf ps.length : Int)) = ((j - hf ps.length : Nat) : Int) := by omega
          wtm_at "w"
          rw [e1]
          have k28 : Kp [] H H8 := ((k2.tr0 k6).tr0 k7).tr1 k8 (.inr nL2)
          refine ⟨c1, ps.drop (hf ps.length), ws ++ [rt b f (ps.take (hf ps.length))], j - hf ps.length, _, _, rfl, k28.tr0 k9, by rw [k9.at0 h8, List.map_append]; rfl, Z.SqL.of' g9, (ne_of_none h8 n9).symm, by rw [List.length_drop]; omega, by rw [List.length_drop]; omega, ?_, ?_⟩
          · left; rw [List.length_drop]; omega
          · rw [ew, wy_hi s2 hj']; simp
        · have hj' : j < hf ps.length := by omega
          wtm_at "w"
          refine vsl_lst hp (fun c2 H6 k6 n6 g6 => ?_)
          rw [cut_drop _ _ (by rw [List.length_map]; omega), ← List.map_drop] at g6
          wtm_at "w"
          refine ⟨p, c2, b, f, _, rfl, k6.lst0 (k2.lst0 hm), Z.SqL.of' g6, by rw [List.length_drop]; omega, by rw [List.length_drop]; omega, hb, fun H7 k7 => ?_⟩
          refine ⟨k7.at0 (k6.at0 hL), szl (by rw [List.length_map]; omega), fun H8 k8 h8 => ?_⟩
          wtm_at "w"
          have hp8 : SqL X.K H8 pr (ps.map V.int) := k8.lst1 neL (k7.lst0 (k6.lst0 hp))
          refine vsl_lst hp8 (fun c1 H9 k9 n9 g9 => ?_)
          rw [cut_take _ _ (by rw [List.length_map]; omega), ← List.map_take] at g9
          wtm_at "w"
          have k28 : Kp [] H H8 := ((k2.tr0 k6).tr0 k7).tr1 k8 (.inr nL2)
          refine ⟨c1, ps.take (hf ps.length), ws ++ [rt b f (ps.drop (hf ps.length))], j, _, _, rfl, k28.tr0 k9, by rw [k9.at0 h8, List.map_append]; rfl, Z.SqL.of' g9, (ne_of_none h8 n9).symm, by rw [len_take s2]; exact hj', by rw [len_take s2]; omega, ?_, ?_⟩
          · left; rw [len_take s2]; omega
          · rw [ew, wy_lo s2 hj']; simp
      · wtm_at "w"
        exact ⟨pr, ps, ws, j, _, _, rfl, k2, hL, hp, neL, jl, p512, .inr (by omega), ew⟩
    · rintro σ' H2 ⟨pr, ps, ws, j, v1, v2, rfl, k2, hL, hp, neL, jl, p512, pl, ew⟩
      have p1 : ps.length = 1 := by
        rcases pl with h | h
        · have : ((es.length : Nat) : Int).toNat = es.length := by simp
          omega
        · exact h
      have e0 : wy b f es i = ws.reverse := by rw [ew, wy_one (by omega)]; rfl
      have lw : ws.length ≤ 9 := by
        have := congrArg List.length e0
        rw [List.length_reverse] at this; omega
      have hk : Fr [] H H2 := k2
      clear k2
      wtm_at "w"
      refine xe_lc C ?_
      refine xlc_R1 (Vs' := ["way", "k"]) (G' := ["len"]) (nm := "k") (i := 6) (by assumption) ⟨rfl, by decide +kernel, by decide +kernel, rfl, by decide +kernel, by decide⟩ (by wtm_at "m") T.b_range ?_
      wtm_at "w"
      rw [List.length_map]
      refine ⟨_, rfl, by omega, by omega, fun L3 H3 k3 nL3 hL3 => ⟨fun t H' => Kp [] H2 H' ∧ H' L3 = some (.lst ((ws.reverse.take t).map V.int)), ⟨k3, hL3⟩, ?_, ?_⟩⟩
      · rintro t H4 ht ⟨k4, h4⟩
        have ht' : t < ws.length := by omega
        refine ⟨_, by wtm_at "u", ?_⟩
        intro s0 H0 c' cl fp C'
        have hL4 := k4.at0 hL
        clear k3
        wtm_at "w"
        rw [List.length_map]
        wtm_at "w"
        refine vx_lst (Z.SqL.of' hL4) (at_getDi (j := ws.length - 1 - t) (by omega) (by omega)) ?_
        refine ⟨_, h4, szl (by rw [List.length_map, List.length_take, List.length_reverse]; omega), fun H5 k5 h5 => ⟨k4.tr1 k5 (.inr nL3), ?_⟩⟩
        rw [h5, List.take_add_one, List.getElem?_reverse ht', List.map_append]
        have : ws[ws.length - 1 - t]? = some (ws.getD (ws.length - 1 - t) 0) := by
          rw [List.getD_eq_getElem?_getD, List.getElem?_eq_getElem (by omega)]; rfl
        rw [this]; rfl
      · rintro H4 ⟨k4, h4⟩
        have e5 : ((ws.length : Nat) : Int).toNat = ws.reverse.length := by simp
        rw [e5, List.take_length] at h4
        wtm_at "w"
        refine vc_tupL (Z.SqL.of' h4) (fun r6 H6 k6 h6 => ?_)
        refine q r6 H6 ((hk.k.tr0 k4).tr0 k6) ?_
        rw [e0]; exact h6
end
/-! plokD -/
/-! a place as the law makes them -/
def PlOk (p : Pl) : Prop := (p.w = ("cite" : Str) ∨ p.w = ("back" : Str) ∨ p.w = ("entry" : Str)) ∧ (¬ p.w = ("entry" : Str) → p.way = []) ∧ 0 ≤ p.i
instance : DecidableEq Pl := fun ⟨w, i, y⟩ ⟨w', i', y'⟩ => decidable_of_iff (w = w' ∧ i = i' ∧ y = y') ⟨fun ⟨a, b, c⟩ => by rw [a, b, c], fun h => by cases h; exact ⟨rfl, rfl, rfl⟩⟩
/-! plok -/
/-! places and steps as data that can be compared -/
theorem plD_ok {p : Pl} (h : PlOk p) : (plD p).canLay0 = true ∧ (plD p).depth ≤ 2 := by
  have c : PyData.canLay0 (.str p.w) = true := by
    rcases h.1 with e | e | e <;> rw [e] <;> decide +kernel
  unfold plD
  by_cases e : p.w = ("entry" : Str)
  · rw [if_pos e]
    refine ⟨?_, by simp only [PyData.depth, PyData.depthAll, depth_ints]; omega⟩
    simp only [PyData.canLay0, PyData.canLayAll0, canLay_ints, Bool.and_true]
    simpa [PyData.canLay0] using c
  · rw [if_neg e]
    refine ⟨?_, by simp only [PyData.depth, PyData.depthAll]; omega⟩
    simp only [PyData.canLay0, PyData.canLayAll0, Bool.and_true]
    simpa [PyData.canLay0] using c
theorem stps_ok : ∀ {ss : List Stp}, (∀ s ∈ ss, PlOk s.2) → PyData.canLayAll0 (ss.map stpD) = true ∧ PyData.depthAll (ss.map stpD) ≤ 3
  | [], _ => ⟨rfl, by simp [PyData.depthAll]⟩
  | s :: r, h => by
    obtain ⟨a, b⟩ := stps_ok (ss := r) (fun x m => h x (List.mem_cons_of_mem _ m))
    obtain ⟨c, d⟩ := plD_ok (h s List.mem_cons_self)
    rw [List.map_cons, PyData.canLayAll0, PyData.depthAll, a]
    refine ⟨?_, ?_⟩
    · simp [stpD, PyData.canLay0, PyData.canLayAll0, canLay_ints, c]
    · have : (stpD s).depth ≤ 3 := by
        simp only [stpD, PyData.depth, PyData.depthAll, depth_ints]; omega
      omega
theorem shPap {first : List Int} {ss : List Stp} {r : List PyData} (h : ∀ s ∈ ss, PlOk s.2) (hr : PyData.canLayAll0 r = true) (hd : PyData.depthAll r ≤ 20) : SeqAt.shaped (.tuple (.tuple (first.map PyData.int) :: .list (ss.map stpD) :: r)) = true ∧ SeqAt.shaped (.list (.tuple (first.map PyData.int) :: .list (ss.map stpD) :: r)) = true := by
  obtain ⟨a, b⟩ := stps_ok h
  have d : PyData.depthAll (.tuple (first.map PyData.int) :: .list (ss.map stpD) :: r) ≤ 20 := by
    simp only [PyData.depthAll, PyData.depth, depth_ints]; omega
  unfold SeqAt.shaped
  simp only [PyData.canLay0, PyData.canLayAll0, canLay_ints, a, hr, PyData.depth, Bool.and_self, Bool.true_and]
  exact ⟨decide_eq_true (by omega), decide_eq_true (by omega)⟩
theorem eqvAll_cons (a b : PyData) (x y : List PyData) : PyData.eqvAll (a :: x) (b :: y) = (PyData.eqv a b && PyData.eqvAll x y) := by rw [PyData.eqvAll]
theorem eqv_int (a b : Int) : PyData.eqv (.int a) (.int b) = decide (a = b) := by simp only [PyData.eqv]; by_cases e : a = b <;> simp [e]
theorem eqv_str (a b : Str) : PyData.eqv (.str a) (.str b) = decide (a = b) := by simp only [PyData.eqv]; by_cases e : a = b <;> simp [e]
theorem eqv_tup (x y : List PyData) : PyData.eqv (.tuple x) (.tuple y) = PyData.eqvAll x y := by rw [PyData.eqv]
theorem eqv_lst (x y : List PyData) : PyData.eqv (.list x) (.list y) = PyData.eqvAll x y := by rw [PyData.eqv]
theorem eqv_pl {p q : Pl} (hp : PlOk p) (hq : PlOk q) : PyData.eqv (plD p) (plD q) = decide (p = q) := by
  obtain ⟨w, i, y⟩ := p
  obtain ⟨w', i', y'⟩ := q
  have hp2 := hp.2
  have hq2 := hq.2
  dsimp only at hp2 hq2
  have nl : ∀ ds : List PyData, ds ≠ [] → PyData.eqvAll ds [] = false := fun ds h => by cases ds with
    | nil => exact absurd rfl h
    | cons _ _ => rw [PyData.eqvAll]; all_goals (intros; simp_all)
  have nl2 : ∀ ds : List PyData, ds ≠ [] → PyData.eqvAll [] ds = false := fun ds h => by cases ds with
    | nil => exact absurd rfl h
    | cons _ _ => rw [PyData.eqvAll]; all_goals (intros; simp_all)
  unfold plD
  by_cases e : w = ("entry" : Str)
  · by_cases e' : w' = ("entry" : Str)
    · rw [if_pos e, if_pos e', eqv_tup, eqvAll_cons, eqvAll_cons, eqvAll_cons, eqv_str, eqv_int, eqv_T, show PyData.eqvAll [] [] = true by rw [PyData.eqvAll], Bool.and_true, ← Bool.decide_and, ← Bool.decide_and]
      exact decide_eq_decide.mpr ⟨fun ⟨a, b, c⟩ => by rw [show w = w' from a, show i = i' from b, show y = y' from c], fun z => by cases z; exact ⟨rfl, rfl, rfl⟩⟩
    · rw [if_pos e, if_neg e', eqv_tup, eqvAll_cons, eqv_str, decide_eq_false (show ¬ w = w' from fun z => e' (z ▸ e)), Bool.false_and]
      exact (decide_eq_false (fun z => by cases z; exact e' e)).symm
  · by_cases e' : w' = ("entry" : Str)
    · rw [if_neg e, if_pos e', eqv_tup, eqvAll_cons, eqv_str, decide_eq_false (show ¬ w = w' from fun z => e (z ▸ e')), Bool.false_and]
      exact (decide_eq_false (fun z => by cases z; exact e e')).symm
    · rw [if_neg e, if_neg e', eqv_tup, eqvAll_cons, eqvAll_cons, eqv_str, eqv_int, show PyData.eqvAll [] [] = true by rw [PyData.eqvAll], Bool.and_true, ← Bool.decide_and]
      refine decide_eq_decide.mpr ⟨fun ⟨a, b⟩ => ?_, fun z => by cases z; exact ⟨rfl, rfl⟩⟩
      rw [hp2.1 e, hq2.1 e', show w = w' from a, show i = i' from b]
theorem eqv_stps : ∀ {a b : List Stp}, (∀ s ∈ a, PlOk s.2) → (∀ s ∈ b, PlOk s.2) → PyData.eqvAll (a.map stpD) (b.map stpD) = decide (a = b)
  | [], [], _, _ => by simp [PyData.eqvAll]
  | [], _ :: _, _, _ => by simp [PyData.eqvAll]
  | _ :: _, [], _, _ => by simp [PyData.eqvAll]
  | s :: a, t :: b, ha, hb => by
    rw [List.map_cons, List.map_cons, eqvAll_cons, eqv_stps (fun x m => ha x (List.mem_cons_of_mem _ m)) (fun x m => hb x (List.mem_cons_of_mem _ m))]
    unfold stpD
    rw [eqv_tup, eqvAll_cons, eqvAll_cons, eqv_T, eqv_pl (ha s List.mem_cons_self) (hb t List.mem_cons_self), show PyData.eqvAll [] [] = true by rw [PyData.eqvAll], Bool.and_true, ← Bool.decide_and, ← Bool.decide_and]
    refine decide_eq_decide.mpr ⟨fun ⟨⟨x, y⟩, z⟩ => ?_, fun z => by cases z; exact ⟨⟨rfl, rfl⟩, rfl⟩⟩
    rw [z, show s = t from Prod.ext x y]
/-! placeT -/
/-- a place of a drawn thing -/
theorem place_ofT {n f : Int} {row es : List Int} {x : Pl × Int} (wt : Th n f row es) (h : x ∈ placesN n f row es) : hasPl row x.1 = true ∧ (¬ x.1.w = ("entry" : Str) → heldO row x.1 = some x.2) ∧ (x.1.w = ("entry" : Str) → row.getD 0 0 = 4 ∧ row.getD 4 0 = es.length ∧ 0 ≤ x.1.i ∧ x.1.i < es.length ∧ x.1.way = wy n f es x.1.i.toNat ∧ x.2 = es.getD x.1.i.toNat 0) := by
  have th := wt.thing
  have ro := wt.ok
  have fromHeld : ∀ {p : Pl} {d : Int}, heldO row p = some d → hasPl row p = true := fun {p d} hh => by
    unfold heldO at hh
    cases e : hasPl row p with
    | true => rfl
    | false => rw [if_pos (.inr e)] at hh; cases hh
  unfold placesN at h
  by_cases h2 : row.getD 0 0 = 2
  · obtain ⟨l2, l3⟩ := isThing_doc th h2
    rw [if_pos h2] at h
    unfold citesN at h
    obtain ⟨k, hk, rfl⟩ := List.mem_map.mp h
    rw [List.mem_range] at hk
    have hh : heldO row ⟨"cite", (k : Int), []⟩ = some (row.getD (2 + k) 0) := by
      rw [heldO_cite (p := ⟨"cite", (k : Int), []⟩) th ro rfl, if_pos ⟨h2, by show 0 ≤ (k : Int); omega, by show (k : Int) < _; omega⟩]; rfl
    exact ⟨fromHeld hh, fun _ => hh, fun e => absurd e (show ¬ ("cite" : Str) = "entry" by decide +kernel)⟩
  · rw [if_neg h2] at h
    by_cases h4 : row.getD 0 0 = 4
    · obtain ⟨l6, _⟩ := isThing_hd th h4
      obtain ⟨s, kk, hh', bs, er, e1, e5⟩ := wt.hd h4
      have r4 : row.getD 4 0 = (es.length : Int) := by rw [er]; rfl
      rw [if_pos h4] at h
      rcases List.mem_append.mp h with h | h
      · unfold backsN at h
        obtain ⟨k, hk, rfl⟩ := List.mem_map.mp h
        rw [List.mem_range] at hk
        have hh : heldO row ⟨"back", (k : Int), []⟩ = some (row.getD (6 + k) 0) := by
          rw [heldO_back (p := ⟨"back", (k : Int), []⟩) th rfl, if_pos ⟨h4, by show 0 ≤ (k : Int); omega, by show (k : Int) < _; omega⟩]; rfl
        exact ⟨fromHeld hh, fun _ => hh, fun e => absurd e (show ¬ ("back" : Str) = "entry" by decide +kernel)⟩
      · unfold entsN at h
        obtain ⟨k, hk, rfl⟩ := List.mem_map.mp h
        rw [List.mem_range] at hk
        refine ⟨?_, fun e => absurd rfl e, fun _ => ⟨h4, r4, by show 0 ≤ (k : Int); omega, by show (k : Int) < _; omega, rfl, rfl⟩⟩
        unfold hasPl
        rw [if_pos rfl]
        apply decide_eq_true
        exact ⟨h4, by show 0 ≤ (k : Int); omega, by show (k : Int) < _; rw [r4]; omega⟩
    · rw [if_neg h4] at h; cases h
theorem ahead_okT {n f : Int} {row es bs : List Int} {p : Pl} {d : Int} (wt : Th n f row es) (h : (p, d) ∈ placesN n f row es) (e : dig n f bs = d) (hr : rrB bs row p = true) : stepWhy n f bs row p = none := by
  obtain ⟨h1, h2, h3⟩ := place_ofT wt h
  have ho : holdsB n f row p (dig n f bs) = true := by
    unfold holdsB
    by_cases he : p.w = ("entry" : Str)
    · obtain ⟨q4, q5, q6, q7, q8, q9⟩ := h3 he
      rw [if_pos he, show hasPl row p = true from h1, Bool.true_and]
      apply decide_eq_true
      unfold climbO
      have q5' : row.getD 4 0 = (es.length : Int) := q5
      have q8' : p.way = wy n f es p.i.toNat := q8
      have q9' : d = es.getD p.i.toNat 0 := q9
      rw [q5', Int.toNat_natCast, q8', if_pos (wy_len n f es.length es p.i.toNat (Nat.le_refl _)).symm, e]
      obtain ⟨s, k, hh, bs', er, _, _⟩ := wt.hd q4
      have r5 : row.getD 5 0 = rt n f es := by rw [er]; rfl
      have hi : p.i.toNat < es.length := by
        have : p.i < (es.length : Int) := q7
        have : 0 ≤ p.i := q6
        omega
      rw [cl_wy n f es.length es p.i.toNat d (Nat.le_refl _) (by rw [q9', List.getD_eq_getElem?_getD, List.getElem?_eq_getElem hi]; rfl), r5]
    · rw [if_neg he]
      apply decide_eq_true
      rw [e]; exact h2 he
  unfold stepWhy
  rw [if_pos wt.thing, if_pos h1, if_pos ho, if_pos hr]
/-! tsnoc -/
/-! one more -/
theorem take_snoc {α : Type} {l : List α} {t : Nat} {x : α} (h : l[t]? = some x) : l.take (t + 1) = l.take t ++ [x] := by rw [List.take_add_one, h]; rfl
/-! _law_places_m -/
section
local macro_rules | `(tactic| wtm_at "d") => `(tactic| first | ((with_reducible show Z.XE _ (PySem.Expr.Call (PySem.Expr.Name "len" _) (_ :: _) [] _) _ _ _); refine Z.xe_callB (id := "len") (by assumption) (by wtm_at "m") T.b_len (by decide +kernel) ?_) | ((with_reducible show Z.XE _ (PySem.Expr.Call (PySem.Expr.Name "_law_digest" _) (_ :: _) [] _) _ _ _); refine Z.xe_call (by assumption) (Law.ok__law_digest T) (by wtm_at "m") (by omega) ?_) | ((with_reducible show Z.XE _ (PySem.Expr.Call (PySem.Expr.Name "_law_way" _) (_ :: _) [] _) _ _ _); refine Z.xe_call (by assumption) (Law.ok__law_way T) (by wtm_at "m") (by omega) ?_) | ((with_reducible show Z.XE _ (PySem.Expr.Call (PySem.Expr.Name "_law_backs" _) (_ :: _) [] _) _ _ _); refine Z.xe_call (by assumption) (Law.ok__law_backs T) (by wtm_at "m") (by omega) ?_) | fail)
/-! the places at which a thing holds another one by a link -/
def PB (n f : Int) (row bs : List Int) (x : Pl × Int) : Bool := decide (x.2 = dig n f bs) && rrB bs row x.1
def flB (n f : Int) (row bs : List Int) (xs : List (Pl × Int)) : List PyData := (xs.filter (PB n f row bs)).map fun x => plD x.1
def placesB (n f : Int) (row es bs : List Int) : List Pl := ((placesN n f row es).filter (PB n f row bs)).map (·.1)
theorem placesB_fl (n f : Int) (row es bs : List Int) : (placesB n f row es bs).map plD = flB n f row bs (placesN n f row es) := by unfold placesB flB; rw [List.map_map]; rfl
theorem flB_app (n f : Int) (row bs : List Int) (xs ys : List (Pl × Int)) : flB n f row bs (xs ++ ys) = flB n f row bs xs ++ flB n f row bs ys := by unfold flB; rw [List.filter_append, List.map_append]
theorem flB_one (n f : Int) (row bs : List Int) (x : Pl × Int) : flB n f row bs [x] = if PB n f row bs x = true then [plD x.1] else [] := by
  unfold flB
  rw [List.filter_cons]
  by_cases h : PB n f row bs x = true
  · rw [if_pos h, if_pos h]; rfl
  · rw [if_neg h, if_neg h]; rfl
theorem noL_flB (n f : Int) (row bs : List Int) : ∀ xs : List (Pl × Int), noLs (flB n f row bs xs) = true := fun xs => by
  have : ∀ ys : List (Pl × Int), noLs (ys.map fun x => plD x.1) = true := by
    intro ys
    induction ys with
    | nil => rfl
    | cons y ys ih => rw [List.map_cons, noLs, noL_pl, ih]; rfl
  exact this _
theorem flB_len (n f : Int) (row bs : List Int) (xs : List (Pl × Int)) : (flB n f row bs xs).length ≤ xs.length := by unfold flB; rw [List.length_map]; exact List.length_filter_le _ _
theorem rrB_else {bs row : List Int} {p : Pl} (h : ¬ p.w = ("back" : Str)) : rrB bs row p = true := by unfold rrB; rw [if_neg h]
/-- one more: kept or not -/
theorem flB_yes {K : PySem.W.Frag} {H H' : Hp} {A : List Addr} {n f : Int} {row bs : List Int} {us : List V} {ds : List PyData} {l : List (Pl × Int)} {t : Nat} {x : Pl × Int} {v : V} (hx : l[t]? = some x) (hp : PB n f row bs x = true) (k : Kp A H H') (hn : noLs ds = true) (hd : DpAll K H us (ds ++ flB n f row bs (l.take t))) (hv : Dp K H' v (plD x.1)) : DpAll K H' (us ++ [v]) (ds ++ flB n f row bs (l.take (t + 1))) := by
  rw [take_snoc hx, flB_app, flB_one, if_pos hp, ← List.append_assoc]
  refine dpAll_app (dpAll_kpT k ?_ hd) (.cons hv .nil)
  have : ∀ xs ys : List PyData, noLs xs = true → noLs ys = true → noLs (xs ++ ys) = true := by
    intro xs
    induction xs with
    | nil => intro ys _ h; exact h
    | cons x xs ih =>
      intro ys h1 h2
      simp only [noLs, Bool.and_eq_true] at h1
      rw [List.cons_append, noLs, h1.1, ih ys h1.2 h2]; rfl
  exact this _ _ hn (noL_flB _ _ _ _ _)
theorem flB_no {n f : Int} {row bs : List Int} {l : List (Pl × Int)} {t : Nat} {x : Pl × Int} (hx : l[t]? = some x) (hp : PB n f row bs x = false) : flB n f row bs (l.take (t + 1)) = flB n f row bs (l.take t) := by
  rw [take_snoc hx, flB_app, flB_one, if_neg (by rw [hp]; decide), List.append_nil]
def sp_lplM (K : PySem.W.Frag) : Sp := fun vs H Q _ => ∃ (m p a e ba : Addr) (n f : Int) (row es bs : List Int), vs = [.ref m, .ref p, .ref ba] ∧ H m = some (.lst ([n, f].map V.int)) ∧ H p = some (.lst [.ref a, .ref e]) ∧ SqT K H a (row.map V.int) ∧ H e = some (.lst (es.map V.int)) ∧ Th n f row es ∧ SqT K H ba (bs.map V.int) ∧ isThing bs = true ∧ 0 < n ∧
  ∀ L us H', Kp [] H H' → H L = none → H' L = some (.lst us) → DpAll K H' us ((placesB n f row es bs).map plD) → Q (.ref L) H'
theorem ok__law_places (T : Txt P w K mg base) : DefOk P w K mg base "_law_places" ["mix", "thing", "before"] 13 (sp_lplM K) := by
  refine DefOk.by T.d__law_places sc__law_places oc__law_places (fun vs H Q E h => ?_) (fun X e1 e2 e3 e4 e5 C H vs Q E h => ?_)
  · obtain ⟨m, p, a, e, ba, n, f, row, es, bs, rfl, _⟩ := h; rfl
  · obtain ⟨m, p, a, e, ba, n, f, row, es, bs, rfl, hm, hp, ha, he, wt, hb, tb, hn, q⟩ := h
    have th := wt.thing
    have hpos := isThing_pos th
    have bpos := isThing_pos tb
    have el := wt.el
    have rl := wt.len
    have p0 : placesN n f row es = if row.getD 0 0 = 2 then citesN row else if row.getD 0 0 = 4 then backsN row ++ entsN n f es else [] := rfl
    rw [placesB_fl] at q
    have nc : ¬ ("cite" : Str) = ("entry" : Str) := by decide +kernel
    have nb : ¬ ("back" : Str) = ("entry" : Str) := by decide +kernel
    have ncb : ¬ ("cite" : Str) = ("back" : Str) := by decide +kernel
    have neb : ¬ ("entry" : Str) = ("back" : Str) := by decide +kernel
    have hm' : H m = some (.lst [.int n, .int f]) := hm
    subst e1; subst e2; subst e3; subst e4; subst e5
    -- behind the cites
    have rest : ∀ (L : Addr) (us : List V) (H1 : Hp) (v6 v7 : Option V), Kp [] H H1 → H L = none → H1 L = some (.lst us) → DpAll X.K H1 us (flB n f row bs (if row.getD 0 0 = 2 then citesN row else [])) → XB X ((defBody s__law_places).drop 4) (fun _ H' => Q .non H') ⟨Q, fun _ _ => False, fun _ _ => False⟩ [some (.ref m), some (.ref p), some (.ref ba), some (.ref a), some (.int (dig n f bs)), some (.ref L), v6, v7] H1 := by
      intro L us H1 v6 v7 k1 nL hL hd
      have ha1 := k1.tup ha
      refine xb_cons ?_
      wtm_at "w"
      refine vx_tup ha1 (at_getD 0 (by omega)) ?_
      wtm_at "w"
      refine ite_d (fun h4 => ?_) (fun h4 => ?_)
      · have h2 : ¬ row.getD 0 0 = 2 := by omega
        rw [if_neg h2, if_pos h4] at p0
        rw [if_neg h2] at hd
        obtain ⟨l6, c1, l66⟩ := isThing_hd th h4
        obtain ⟨t0, t1⟩ := wt.two h4
        have u0 : us = [] := by
          have := dpAll_len hd
          exact List.length_eq_zero_iff.mp this
        subst u0
        have hid : Fr [] H H1 := k1
        clear k1 hd
        wtm_at "w"
        refine vx_tup ha1 (at_getD 2 (by omega)) ?_
        wtm_at "w"
        refine ⟨row.getD 2 0, rfl, t0, by omega, fun R H2 k2 nR hR => ?_⟩
        have hL2 := k2.at0 hL
        have ha2 := k2.tup ha1
        have nLR : L ≠ R := ne_of_none hL nR
        have hid2 : Fr [] H H2 := hid.k.tr0 k2
        have hb2 := hid2.k.tup hb
        clear k2 hL hid ha1
        refine ⟨_, by wtm_at "u", ?_⟩
        refine xb_cons ?_
        refine xs_forR1 (by assumption) (by wtm_at "m") T.b_range ?_
        wtm_at "w"
        rw [List.length_map, bkTo_len]
        have lB : (backsN row).length = row.length - 6 := by unfold backsN; rw [List.length_map, List.length_range]
        refine ⟨_, rfl, by omega, by omega, fun t σ H' => ∃ (v7 : Option V) (us : List V), σ = [some (.ref m), some (.ref p), some (.ref ba), some (.ref a), some (.int (dig n f bs)), some (.ref L), v7, some (.ref R)] ∧ Kp [L] H2 H' ∧ H' L = some (.lst us) ∧ DpAll X.K H' us ([] ++ flB n f row bs ((backsN row).take t)), ⟨_, [], rfl, Kp.refl _ _, hL2, .nil⟩, ?_, ?_⟩
        · rintro t σ' H3 ht ⟨v7, us3, rfl, k3, h3, d3⟩
          have ht' : t < row.length - 6 := by omega
          have hx : (backsN row)[t]? = some (⟨"back", (t : Int), []⟩, row.getD (6 + t) 0) := by
            unfold backsN; rw [List.getElem?_map, List.getElem?_range ht']; rfl
          have a3 := k3.tup ha2
          have b3 := k3.tup hb2
          have R3 := k3.at1 (Ne.symm nLR) hR
          have lu := dpAll_len d3
          have lf := flB_len n f row bs ((backsN row).take t)
          rw [List.length_take] at lf
          rw [List.nil_append] at lu
          have hk : Fr [L] H2 H3 := k3
          clear k3
          have keep : PB n f row bs (⟨"back", (t : Int), []⟩, row.getD (6 + t) 0) = false → ∀ v7, ∃ (v7' : Option V) (us : List V), ([some (.ref m), some (.ref p), some (.ref ba), some (.ref a), some (.int (dig n f bs)), some (.ref L), some v7, some (.ref R)] : St) = [some (.ref m), some (.ref p), some (.ref ba), some (.ref a), some (.int (dig n f bs)), some (.ref L), v7', some (.ref R)] ∧ Kp [L] H2 H3 ∧ H3 L = some (.lst us) ∧ DpAll X.K H3 us ([] ++ flB n f row bs ((backsN row).take (t + 1))) := fun hp v7 => ⟨_, us3, rfl, hk.k, h3, by rw [flB_no hx hp]; exact d3⟩
          have pb : PB n f row bs (⟨"back", (t : Int), []⟩, row.getD (6 + t) 0) = (decide (row.getD (6 + t) 0 = dig n f bs) && decide (bs.getD 0 0 = 4 ∧ bs.getD 1 0 = row.getD 1 0 ∧ bs.getD 2 0 = row.getD 2 0 - 2 ^ t ∧ bs.getD 3 0 < row.getD 3 0)) := by
            unfold PB rrB
            rw [if_pos rfl, Int.toNat_natCast]
          wtm_at "w"
          refine vx_tup a3 (at_getDi (j := 6 + t) (by omega) (by omega)) ?_
          wtm_at "w"
          refine ite_d (fun c1 => ?_) (fun c1 => ?_)
          · wtm_at "w"
            refine vx_tup b3 (at_getD 0 (by omega)) ?_
            wtm_at "w"
            refine ite_d (fun c2 => ?_) (fun c2 => ?_)
            · obtain ⟨b6, _⟩ := isThing_hd tb c2
              wtm_at "w"
              refine vx_tup b3 (at_getD 1 (by omega)) ?_
              wtm_at "w"
              refine vx_tup a3 (at_getD 1 (by omega)) ?_
              wtm_at "w"
              refine ite_d (fun c3 => ?_) (fun c3 => ?_)
              · wtm_at "w"
                refine vx_tup b3 (at_getD 2 (by omega)) ?_
                wtm_at "w"
                have hbk : (bkTo (row.getD 2 0) (cntB (row.getD 2 0)))[t]? = some (row.getD 2 0 - 2 ^ t) := by
                  unfold bkTo; rw [List.getElem?_map, List.getElem?_range (by omega)]; rfl
                refine vx_lst (Z.SqL.of' R3) (at_map_nat hbk) ?_
                wtm_at "w"
                refine ite_d (fun c4 => ?_) (fun c4 => ?_)
                · wtm_at "w"
                  refine vx_tup b3 (at_getD 3 (by omega)) ?_
                  wtm_at "w"
                  refine vx_tup a3 (at_getD 3 (by omega)) ?_
                  wtm_at "w"
                  refine ite_d (fun c5 => ?_) (fun c5 => ?_)
                  · refine xb_cons ?_
                    wtm_at "w"
                    refine xe_str ?_
                    wtm_at "w"
                    intro q2 H4 k4 h4' _
                    refine ⟨k4.at0 h3, szl (by omega), fun H5 k5 h5 => ?_⟩
                    wtm_at "w"
                    have k35 : Kp [L] H3 H5 := (k4.wk (fun l m => nomatch m)).tr k5 (fun l m => .inl m)
                    refine ⟨_, _, rfl, hk.k.tr k35 (fun l m => .inl m), h5, flB_yes hx ?_ k35 rfl d3 ?_⟩
                    · rw [pb, decide_eq_true c1, decide_eq_true ⟨c2, c3, c4, c5⟩]; rfl
                    · rw [plD_two nb]
                      exact .tup (k5.tup h4') (.cons (.str _) (.cons (.int _) .nil))
                  · repeat refine xb_nil ?_
                    exact keep (by rw [pb, decide_eq_false (fun z : bs.getD 0 0 = 4 ∧ bs.getD 1 0 = row.getD 1 0 ∧ bs.getD 2 0 = row.getD 2 0 - 2 ^ t ∧ bs.getD 3 0 < row.getD 3 0 => c5 z.2.2.2), Bool.and_false]) _
                · repeat refine xb_nil ?_
                  exact keep (by rw [pb, decide_eq_false (fun z : bs.getD 0 0 = 4 ∧ bs.getD 1 0 = row.getD 1 0 ∧ bs.getD 2 0 = row.getD 2 0 - 2 ^ t ∧ bs.getD 3 0 < row.getD 3 0 => c4 z.2.2.1), Bool.and_false]) _
              · repeat refine xb_nil ?_
                exact keep (by rw [pb, decide_eq_false (fun z : bs.getD 0 0 = 4 ∧ bs.getD 1 0 = row.getD 1 0 ∧ bs.getD 2 0 = row.getD 2 0 - 2 ^ t ∧ bs.getD 3 0 < row.getD 3 0 => c3 z.2.1), Bool.and_false]) _
            · repeat refine xb_nil ?_
              exact keep (by rw [pb, decide_eq_false (fun z : bs.getD 0 0 = 4 ∧ bs.getD 1 0 = row.getD 1 0 ∧ bs.getD 2 0 = row.getD 2 0 - 2 ^ t ∧ bs.getD 3 0 < row.getD 3 0 => c2 z.1), Bool.and_false]) _
          · repeat refine xb_nil ?_
            exact keep (by rw [pb, decide_eq_false c1, Bool.false_and]) _
        · rintro σ' H3 ⟨v7, us3, rfl, k3, h3, d3⟩
          have e0 : ((cntB (row.getD 2 0) : Nat) : Int).toNat = (backsN row).length := by omega
          rw [e0, List.take_length, List.nil_append] at d3
          have nm : m ≠ L := ne_of_none hm nL
          have np : p ≠ L := ne_of_none hp nL
          have ne : e ≠ L := ne_of_none he nL
          have m3 := k3.at1 nm (hid2.k.at0 hm)
          have p3 := k3.at1 np (hid2.k.at0 hp)
          have e3 := k3.at1 ne (hid2.k.at0 he)
          have hid3 : Fr [] H H3 := hid2.k.tr1 k3 (.inr nL)
          clear k3 hid2 hL2 hR nLR
          refine xb_cons ?_
          refine xs_forR1 (by assumption) (by wtm_at "m") T.b_range ?_
          wtm_at "w"
          rw [List.length_map]
          have lE : (entsN n f es).length = es.length := by unfold entsN; simp
          refine ⟨_, rfl, by omega, by omega, fun t σ H' => ∃ (v7 : Option V) (us : List V), σ = [some (.ref m), some (.ref p), some (.ref ba), some (.ref a), some (.int (dig n f bs)), some (.ref L), v7, some (.ref R)] ∧ Kp [L] H3 H' ∧ H' L = some (.lst us) ∧ DpAll X.K H' us (flB n f row bs (backsN row) ++ flB n f row bs ((entsN n f es).take t)), ⟨_, us3, rfl, Kp.refl _ _, h3, by simpa [flB] using d3⟩, ?_, ?_⟩
          · rintro t σ' H4 ht ⟨v7, us4, rfl, k4, h4', d4⟩
            have ht' : t < es.length := by omega
            have hx : (entsN n f es)[t]? = some (⟨"entry", (t : Int), wy n f es t⟩, es.getD t 0) := by
              unfold entsN; rw [List.getElem?_map, List.getElem?_range ht']; rfl
            have lu := dpAll_len d4
            have lf := flB_len n f row bs ((entsN n f es).take t)
            have lf2 := flB_len n f row bs (backsN row)
            rw [List.length_take] at lf
            rw [List.length_append] at lu
            have m4 := k4.at1 nm m3
            have p4 := k4.at1 np p3
            have e4 := k4.at1 ne e3
            have hk : Fr [L] H3 H4 := k4
            have pb : PB n f row bs (⟨"entry", (t : Int), wy n f es t⟩, es.getD t 0) = decide (es.getD t 0 = dig n f bs) := by
              unfold PB
              rw [rrB_else neb, Bool.and_true]
            clear k4
            wtm_at "w"
            refine vx_lst (Z.SqL.of' e4) (at_getD t ht') ?_
            wtm_at "w"
            refine ite_d (fun c1 => ?_) (fun c1 => ?_)
            · refine xb_cons ?_
              wtm_at "w"
              refine xe_str ?_
              wtm_at "w"
              refine ⟨m, e, n, f, es, t, rfl, Z.SqL.of' m4, Z.SqL.of' e4, ht', by omega, hn, fun tw H5 k5 hw5 => ?_⟩
              wtm_at "w"
              intro q2 H6 k6 h6 _
              refine ⟨k6.at0 (k5.at0 h4'), szl (by omega), fun H7 k7 h7 => ?_⟩
              wtm_at "w"
              have k47 : Kp [L] H4 H7 := ((k5.tr0 k6).wk (fun l m => nomatch m)).tr k7 (fun l m => .inl m)
              refine ⟨_, _, rfl, hk.k.tr k47 (fun l m => .inl m), h7, flB_yes hx (by rw [pb, decide_eq_true c1]) k47 (noL_flB _ _ _ _ _) d4 ?_⟩
              rw [plD_three]
              exact .tup (k7.tup h6) (.cons (.str _) (.cons (.int _) (.cons (dp_T (k7.tup (k6.tup hw5))) .nil)))
            · repeat refine xb_nil ?_
              exact ⟨_, us4, rfl, hk.k, h4', by rw [flB_no hx (by rw [pb, decide_eq_false c1])]; exact d4⟩
          · rintro σ' H4 ⟨v7, us4, rfl, k4, h4', d4⟩
            have e5 : ((es.length : Nat) : Int).toNat = (entsN n f es).length := by omega
            rw [e5, List.take_length, ← flB_app, ← p0] at d4
            wtm_at "w"
            exact q L us4 H4 (hid3.k.tr1 k4 (.inr nL)) nL h4' d4
      · refine xb_nil ?_
        rw [if_neg h4] at p0
        wtm_at "w"
        refine q L us H1 k1 nL hL ?_
        rw [p0]; exact hd
    simp only [st0]
    refine xb_cons ?_
    wtm_at "w"
    refine ⟨m, ba, n, f, bs, rfl, Z.SqL.of' hm, hb, hn, ?_⟩
    wtm_at "w"
    intro L H1 k1 nL hL
    have ha1 := k1.tup ha
    wtm_at "w"
    refine vx_tup ha1 (at_getD 0 (by omega)) ?_
    wtm_at "w"
    refine ite_d (fun h2 => ?_) (fun h2 => ?_)
    · obtain ⟨l2, l3⟩ := isThing_doc th h2
      have c0 := wt.ok.one
      clear hL nL
      have lC : (citesN row).length = (row.getD 1 0).toNat := by unfold citesN; rw [List.length_map, List.length_range]
      refine xb_cons ?_
      refine xs_setLc C (by wtm_at "m") (by decide +kernel) rfl (by decide +kernel) ?_
      refine xlc_R1 (Vs' := ["row", "number", "i"]) (G' := []) (nm := "i") (i := 6) (by assumption) ⟨rfl, by decide +kernel, by decide +kernel, rfl, by decide +kernel, by decide⟩ (by wtm_at "m") T.b_range ?_
      wtm_at "w"
      refine vx_tup ha1 (at_getD 1 (by omega)) ?_
      wtm_at "w"
      refine ⟨_, rfl, by omega, by omega, fun L2' H2 k2 nL2 hL2 => ⟨fun t H' => Kp [] H1 H' ∧ ∃ us, H' L2' = some (.lst us) ∧ DpAll X.K H' us ([] ++ flB n f row bs ((citesN row).take t)), ⟨k2, [], hL2, .nil⟩, ?_, ?_⟩⟩
      · rintro t H3 ht ⟨k3, us3, h3, d3⟩
        clear k2
        have hx : (citesN row)[t]? = some (⟨"cite", (t : Int), []⟩, row.getD (2 + t) 0) := by
          unfold citesN; rw [List.getElem?_map, List.getElem?_range (by omega)]; rfl
        have pb : PB n f row bs (⟨"cite", (t : Int), []⟩, row.getD (2 + t) 0) = decide (row.getD (2 + t) 0 = dig n f bs) := by
          unfold PB
          rw [rrB_else ncb, Bool.and_true]
        have lu := dpAll_len d3
        have lf := flB_len n f row bs ((citesN row).take t)
        rw [List.length_take] at lf
        rw [List.nil_append] at lu
        have a3 := k3.tup ha1
        have hid : Fr [] H1 H3 := k3
        clear k3
        refine ⟨_, by wtm_at "u", ?_⟩
        intro s0 H0 c' cl fp C'
        wtm_at "w"
        refine vx_tup a3 (at_getDi (j := 2 + t) (by omega) (by omega)) ?_
        wtm_at "w"
        refine ite_d (fun c1 => ?_) (fun c1 => ?_)
        · intro s1 H01 c2 cl2 fp2 C2
          refine xe_tup ?_
          refine xa_cons ?_
          refine xe_str ?_
          wtm_at "w"
          intro q2 H4 k4 h4 _
          refine ⟨us3, k4.at0 h3, szl (by omega), fun H5 k5 h5 => ⟨(hid.k.tr0 k4).tr1 k5 (.inr nL2), _, h5, ?_⟩⟩
          have k35 : Kp [L2'] H3 H5 := (k4.wk (fun l m => nomatch m)).tr k5 (fun l m => .inl m)
          refine flB_yes hx (by rw [pb, decide_eq_true c1]) k35 rfl d3 ?_
          rw [plD_two nc]
          exact .tup (k5.tup h4) (.cons (.str _) (.cons (.int _) .nil))
        · exact ⟨hid.k, us3, h3, by rw [flB_no hx (by rw [pb, decide_eq_false c1])]; exact d3⟩
      · rintro H3 ⟨k3, us3, h3, d3⟩
        rw [← lC, List.take_length, List.nil_append] at d3
        refine ⟨_, by wtm_at "u", xb_nil (rest L2' us3 H3 _ _ (k1.tr0 k3) (k1.n _ nL2) h3 (by rw [if_pos h2]; exact d3))⟩
    · exact xb_nil (rest L [] H1 _ _ k1 nL hL (by rw [if_neg h2]; exact .nil))
end
/-! plpOk0 -/
/-! the places that the law lists are whole -/
theorem placesN_ok {n f : Int} {row es : List Int} {x : Pl × Int} (h : x ∈ placesN n f row es) : PlOk x.1 := by
  have nc : ¬ ("cite" : Str) = ("entry" : Str) := by decide +kernel
  unfold placesN at h
  split at h
  · unfold citesN at h
    obtain ⟨k, _, rfl⟩ := List.mem_map.mp h
    exact ⟨.inl rfl, fun _ => rfl, by show (0 : Int) ≤ (k : Int); omega⟩
  · split at h
    · rcases List.mem_append.mp h with h | h
      · unfold backsN at h
        obtain ⟨k, _, rfl⟩ := List.mem_map.mp h
        exact ⟨.inr (.inl rfl), fun _ => rfl, by show (0 : Int) ≤ (k : Int); omega⟩
      · unfold entsN at h
        obtain ⟨k, _, rfl⟩ := List.mem_map.mp h
        exact ⟨.inr (.inr rfl), fun e => absurd rfl e, by show (0 : Int) ≤ (k : Int); omega⟩
    · cases h
theorem placesB_mem {n f : Int} {row es bs : List Int} {p : Pl} (h : p ∈ placesB n f row es bs) : ∃ d, (p, d) ∈ placesN n f row es ∧ dig n f bs = d ∧ rrB bs row p = true := by
  unfold placesB at h
  obtain ⟨x, hx, rfl⟩ := List.mem_map.mp h
  obtain ⟨h1, h2⟩ := List.mem_filter.mp hx
  unfold PB at h2
  rw [Bool.and_eq_true] at h2
  exact ⟨x.2, h1, (of_decide_eq_true h2.1).symm, h2.2⟩
/-! rowsA -/
/-! the rows of a paper; a paper that is checked -/
def tupD (r : List Int) : PyData := .tuple (r.map PyData.int)
theorem noLs_tup : ∀ rs : List (List Int), noLs (rs.map tupD) = true
  | [] => rfl
  | r :: rs => by simp [noLs, tupD, noL, noLs_ints, noLs_tup rs]
/-! stsP -/
/-! steps and papers whose rows' places are known -/
def StsP (K : PySem.W.Frag) (H : Hp) : List V → List (Addr × Stp) → Prop
  | [], [] => True
  | v :: vs, x :: xs => (∃ T pa : Addr, v = .ref T ∧ SqT K H T [.ref x.1, .ref pa] ∧ H x.1 = some (.tup (x.2.1.map V.int)) ∧ Dp K H (.ref pa) (plD x.2.2)) ∧ StsP K H vs xs
  | _, _ => False
section
variable {K : PySem.W.Frag} {H H' : Hp}
theorem StsP.kp {A : List Addr} (k : Kp A H H') : ∀ {vs : List V} {xs : List (Addr × Stp)}, StsP K H vs xs → StsP K H' vs xs
  | [], [], _ => trivial
  | _ :: _, _ :: _, ⟨⟨T, pa, e, h1, h2, h3⟩, h⟩ => ⟨⟨T, pa, e, k.tup h1, k.t _ _ h2, dp_kpT k (noL_pl _) h3⟩, StsP.kp k h⟩
theorem StsP.len : ∀ {vs : List V} {xs : List (Addr × Stp)}, StsP K H vs xs → vs.length = xs.length
  | [], [], _ => rfl
  | _ :: _, _ :: _, h => by rw [List.length_cons, List.length_cons, h.2.len]
theorem StsP.dp : ∀ {vs : List V} {xs : List (Addr × Stp)}, StsP K H vs xs → DpAll K H vs ((xs.map (·.2)).map stpD)
  | [], [], _ => .nil
  | _ :: _, _ :: _, ⟨⟨T, pa, e, h1, h2, h3⟩, h⟩ => by
    subst e
    exact .cons (.tup h1 (.cons (dp_T (.inl (.inl h2))) (.cons h3 .nil))) h.dp
theorem StsP.app : ∀ {vs us : List V} {xs ys : List (Addr × Stp)}, StsP K H vs xs → StsP K H us ys → StsP K H (vs ++ us) (xs ++ ys)
  | [], _, [], _, _, g => g
  | _ :: _, _, _ :: _, _, h, g => ⟨h.1, h.2.app g⟩
theorem StsP.drop : ∀ {vs : List V} {xs : List (Addr × Stp)} (n : Nat), StsP K H vs xs → StsP K H (vs.drop n) (xs.drop n)
  | _, _, 0, h => h
  | [], [], _ + 1, _ => trivial
  | _ :: _, _ :: _, n + 1, h => h.2.drop n
theorem StsP.at : ∀ {vs : List V} {xs : List (Addr × Stp)} {i : Nat} {v : V}, StsP K H vs xs → vs[i]? = some v → ∃ x, xs[i]? = some x ∧ ∃ T pa : Addr, v = .ref T ∧ SqT K H T [.ref x.1, .ref pa] ∧ H x.1 = some (.tup (x.2.1.map V.int)) ∧ Dp K H (.ref pa) (plD x.2.2)
  | [], [], _, _, _, e => by simp at e
  | v :: _, x :: _, 0, u, h, e => by
    have : v = u := by simpa using e
    subst this
    exact ⟨x, rfl, h.1⟩
  | _ :: _, _ :: _, i + 1, u, h, e => by
    obtain ⟨y, h1, h2⟩ := h.2.at (i := i) (by simpa using e)
    exact ⟨y, by simpa using h1, h2⟩
theorem StsP.refs : ∀ {vs : List V} {xs : List (Addr × Stp)}, StsP K H vs xs → ∃ as : List Addr, vs = as.map V.ref
  | [], [], _ => ⟨[], rfl⟩
  | _ :: _, _ :: _, ⟨⟨T, pa, e, _⟩, h⟩ => by
    obtain ⟨as, rfl⟩ := h.refs
    exact ⟨T :: as, by rw [e]; rfl⟩
end
/-- such a paper at p -/
def PpP (K : PySem.W.Frag) (CP : Addr) (H : Hp) (p fa : Addr) (first : List Int) (xs : List (Addr × Stp)) : Prop := ∃ (dx st : Addr) (vs : List V), H p = some (.ins CP dx (papF (.ref fa) st)) ∧ H st = some (.lst vs) ∧ StsP K H vs xs ∧ H fa = some (.tup (first.map V.int))
section
variable {K : PySem.W.Frag} {CP p fa : Addr} {H H' : Hp} {first : List Int} {xs : List (Addr × Stp)}
theorem PpP.kp (h : PpP K CP H p fa first xs) (k : Kp [] H H') : PpP K CP H' p fa first xs := by
  obtain ⟨dx, st, vs, h1, h2, h3, h4⟩ := h
  exact ⟨dx, st, vs, k.at0 h1, k.at0 h2, h3.kp k, k.t _ _ h4⟩
theorem PpP.box {b r : Addr} (h : PpP K CP H p fa first xs) (bx : Box H b r) (k : Kp [b] H H') : PpP K CP H' p fa first xs := by
  obtain ⟨dx, st, vs, h1, h2, h3, h4⟩ := h
  obtain ⟨as, e⟩ := h3.refs
  refine ⟨dx, st, vs, bx.other k (fun _ z => nomatch z) h1, k.at1 ?_ h2, h3.kp k, k.t _ _ h4⟩
  subst e
  exact bx.neRefs h2
theorem PpP.at (h : PpP K CP H p fa first xs) : PpAt K CP H p first (xs.map (·.2)) := by
  obtain ⟨dx, st, vs, h1, h2, h3, h4⟩ := h
  exact ⟨dx, fa, st, vs, h1, h2, h3.dp, .inl (.inl h4)⟩
end
/-- the last row's place -/
def lastA : Addr → List (Addr × Stp) → Addr
  | a, [] => a
  | _, x :: r => lastA x.1 r
theorem lastA_at : ∀ (xs : List (Addr × Stp)) (a : Addr), (V.ref a :: xs.map fun x => V.ref x.1).getLast? = some (.ref (lastA a xs))
  | [], a => rfl
  | x :: r, a => by
    show (V.ref a :: V.ref x.1 :: r.map fun x => V.ref x.1).getLast? = _
    rw [List.getLast?_cons_cons]; exact lastA_at r x.1
theorem lastA_tup {H : Hp} {K : PySem.W.Frag} : ∀ {vs : List V} {xs : List (Addr × Stp)} {a : Addr} {first : List Int}, StsP K H vs xs → H a = some (.tup (first.map V.int)) → H (lastA a xs) = some (.tup ((lastR first (xs.map (·.2))).map V.int))
  | [], [], _, _, _, h => h
  | _ :: _, x :: r, _, _, ⟨⟨_, _, _, _, h2, _⟩, h⟩, _ => by
    show H (lastA x.1 r) = some (.tup ((lastR x.2.1 (r.map (·.2))).map V.int))
    exact lastA_tup h h2
/-! rowsQ -/
section
local macro_rules | `(tactic| wtm_at "d") => `(tactic| fail)
/-! the rows of a paper, each where it lies -/
def sp_rowsOf (K : PySem.W.Frag) (CP : Addr) : Sp := fun vs H Q _ => ∃ (p fa : Addr) (first : List Int) (xs : List (Addr × Stp)), vs = [.ref p] ∧ PpP K CP H p fa first xs ∧ xs.length ≤ 5000 ∧ ∀ L H', Kp [] H H' → H L = none → H' L = some (.lst (.ref fa :: xs.map fun x => .ref x.1)) → Q (.ref L) H'
theorem ok_rows_of (T : Txt P w K mg base) : DefOk P w K mg base "rows_of" ["paper"] 1 (sp_rowsOf K T.C_Paper) := by
  refine DefOk.by T.d_rows_of sc_rows_of oc_rows_of (fun vs H Q E h => ?_) (fun X e1 e2 e3 e4 e5 C H vs Q E h => ?_)
  · obtain ⟨p, fa, first, xs, rfl, _⟩ := h; rfl
  · obtain ⟨p, fa, first, xs, rfl, ⟨dx, st, vs, h1, h2, h3, h4⟩, ls, q⟩ := h
    have lv : vs.length = xs.length := h3.len
    wtm_at "go"
    refine xs_ret ?_
    refine xe_bin ?_
    refine xe_lst ?_
    refine xa_cons ?_
    refine xe_fld ?_
    wtm_at "w"
    refine ⟨p, _, dx, _, _, rfl, h1, T.cl_Paper, T.na_Paper_first, pap_f _ _, ?_⟩
    wtm_at "w"
    intro l1 H1 k1 n1 hl1
    have h11 := k1.at0 h1
    have h21 := k1.at0 h2
    have h31 := h3.kp k1
    have hid1 : Kp [] H H1 ∧ True := ⟨k1, trivial⟩
    clear k1 h1 h2 h3 h4
    refine xe_lc C ?_
    refine xlc_L2 (Vs' := ["row"]) (G' := []) (nm := "row") (nm2 := "_") (i := 1) (j := 2) (by assumption) ⟨rfl, rfl, by decide, by decide +kernel, by decide +kernel, rfl, by decide +kernel, by decide +kernel, by decide⟩ ?_
    refine xe_fld ?_
    wtm_at "w"
    refine ⟨p, _, dx, _, _, rfl, h11, T.cl_Paper, T.na_Paper_steps, pap_s _ _, ?_⟩
    refine ⟨st, vs, rfl, Z.SqL.of' h21, fun L H2 k2 nL hL => ⟨fun t H' => Kp [] H1 H' ∧ H' L = some (.lst ((xs.map fun x => V.ref x.1).take t)), ⟨k2, hL⟩, ?_, ?_, ?_⟩⟩
    · rintro t H' _ ⟨k, _⟩
      exact Z.SqL.of' (k.at0 h21)
    · rintro t y H3 hy ⟨k3, hL3⟩
      obtain ⟨x, hx, T', pa, rfl, g1, g2, g3⟩ := (h31.kp k3).at hy
      have hi := (List.getElem?_eq_some_iff.mp hx).1
      have hs2 : (xs.map fun x => V.ref x.1)[t]? = some (.ref x.1) := by rw [List.getElem?_map, hx]; rfl
      have hid3 : Kp [] H1 H3 ∧ True := ⟨k3, trivial⟩
      clear k2 k3
      refine ⟨T', .ref x.1, .ref pa, _, _, rfl, g1, by wtm_at "u", by wtm_at "u", ?_⟩
      intro s0 H0 c' cl fp C'
      wtm_at "w"
      refine ⟨_, hL3, szl (by rw [List.length_take, List.length_map]; omega), fun H5 k5 h5 => ⟨hid3.1.tr1 k5 (.inr nL), ?_⟩⟩
      rw [h5, List.take_add_one, hs2]; rfl
    · rintro H3 ⟨k3, hL3⟩
      rw [lv, List.take_of_length_le (by rw [List.length_map]; omega)] at hL3
      refine vo_catL (k3.at0 hl1) hL3 (sz_ (by simp; omega)) (fun p5 H5 k5 n5 h5 => ?_)
      exact q p5 H5 ((hid1.1.tr0 k3).tr0 k5) ((hid1.1.tr0 k3).n _ n5) h5
end
/-! libLk0 -/
/-! what is new does not count -/
theorem kp_shrink {A B : List Addr} {H H' : Hp} (a : Kp A H H') (h : ∀ l ∈ A, l ∈ B ∨ H l = none) : Kp B H H' := (Kp.refl B H).tr a h
/-! walkE -/
section
local macro_rules | `(tactic| wtm_at "d") => `(tactic| first | ((with_reducible show Z.XE _ (PySem.Expr.Call (PySem.Expr.Name "len" _) (_ :: _) [] _) _ _ _); refine Z.xe_callB (id := "len") (by assumption) (by wtm_at "m") T.b_len (by decide +kernel) ?_) | ((with_reducible show Z.XE _ (PySem.Expr.Call (PySem.Expr.Name "_law_draw" _) (_ :: _) [] _) _ _ _); refine Z.xe_call (by assumption) (Law.ok__law_draw T) (by wtm_at "m") (by omega) ?_) | ((with_reducible show Z.XE _ (PySem.Expr.Call (PySem.Expr.Name "_law_places" _) (_ :: _) [] _) _ _ _); refine Z.xe_call (by assumption) (Law.ok__law_places T) (by wtm_at "m") (by omega) ?_) | fail)
/-! a walk on through what lies behind, its rows where they lie -/
def StA (K : PySem.W.Frag) (H : Hp) (n f : Int) (cur : List Int) (v : V) : Prop := ∃ (T pa a : Addr) (row : List Int) (pl : Pl), v = .ref T ∧ SqT K H T [.ref a, .ref pa] ∧ H a = some (.tup (row.map V.int)) ∧ Dp K H (.ref pa) (plD pl) ∧ stepWhy n f cur row pl = none ∧ PlOk pl ∧ RowOk row ∧ row.length ≤ 100 ∧ isThing row = true
theorem StA.kp {K : PySem.W.Frag} {H H' : Hp} {A : List Addr} {n f : Int} {cur : List Int} {v : V} (h : StA K H n f cur v) (k : Kp A H H') : StA K H' n f cur v := by
  obtain ⟨T, pa, a, row, pl, e, h1, h2, h3, h4⟩ := h
  exact ⟨T, pa, a, row, pl, e, k.tup h1, k.t _ _ h2, dp_kpT k (noL_pl _) h3, h4⟩
theorem placesN_lenT {n f : Int} {row es : List Int} (wt : Th n f row es) : (placesN n f row es).length ≤ 200 := by
  have th := wt.thing
  have el := wt.el
  have rl := wt.len
  unfold placesN citesN backsN entsN
  by_cases h2 : row.getD 0 0 = 2
  · obtain ⟨z1, z2⟩ := isThing_doc th h2
    rw [if_pos h2, List.length_map, List.length_range]; omega
  · rw [if_neg h2]
    by_cases h4 : row.getD 0 0 = 4
    · rw [if_pos h4, List.length_append, List.length_map, List.length_map, List.length_range, List.length_range]; omega
    · rw [if_neg h4]; simp
def sp_walkE (K : PySem.W.Frag) : Sp := fun vs H Q _ => ∃ (b r m M fa : Addr) (n f : Int) (ps : List Addr) (ts : List (List Int × List Int)) (first : List Int) (c : Nat), vs = [.ref b, .ref m, .ref M, .ref fa, .int c] ∧ Box H b r ∧ H m = some (.lst ([n, f].map V.int)) ∧ 0 < n ∧ H M = some (.lst (ps.map V.ref)) ∧ ThsAt K H n f ps ts ∧ ps.length ≤ 60 ∧ H fa = some (.tup (first.map V.int)) ∧ isThing first = true ∧ first.length ≤ 100 ∧ c ≤ 20 ∧
  ∀ (L : Addr) (us : List V) (xs : List (Addr × Stp)) H', Kp [b] H H' → Box H' b r → H L = none → H' L = some (.lst us) → StsP K H' us xs → okW n f first (xs.map (·.2)) → xs.length ≤ c → (∀ x ∈ xs, PlOk x.2.2 ∧ RowOk x.2.1 ∧ x.2.1.length ≤ 100 ∧ isThing x.2.1 = true) → Q (.ref L) H'
theorem ok__law_walk (T : Txt P w K mg base) : DefOk P w K mg base "_law_walk" ["box", "mix", "things", "first", "many"] 15 (sp_walkE K) := by
  refine DefOk.by T.d__law_walk sc__law_walk oc__law_walk (fun vs H Q E h => ?_) (fun X e1 e2 e3 e4 e5 C H vs Q E h => ?_)
  · obtain ⟨b, r, m, M, fa, n, f, ps, ts, first, c, rfl, _⟩ := h; rfl
  · obtain ⟨b, r, m, M, fa, n, f, ps, ts, first, c, rfl, bx, hm, hn, hM, hT, lp, hfa, hft, hfl, hc, q⟩ := h
    wtm_at "go"
    wtm_at "w"
    intro R H1 k1 nR hR
    have hR1 : H1 R = some (.lst [.ref fa]) := hR
    have hid1 : Kp [] H H1 ∧ True := ⟨k1, trivial⟩
    have fa1 := k1.t _ _ hfa
    clear k1 hR
    wtm_at "w"
    intro S H2 k2 nS hS
    have b2 := (bx.kp hid1.1).kp k2
    have hR2 := k2.at0 hR1
    have k02 : Kp [b] H H2 := (hid1.1.tr0 k2).wk (fun l m => nomatch m)
    have nRS : R ≠ S := ne_of_none hR1 nS
    have nRb := (bx.nl nR)
    have nSb := ((bx.kp hid1.1).nl nS)
    have nS0 := hid1.1.n _ nS
    have fa2 := k2.t _ _ fa1
    clear k2 hid1 hR1 fa1
    have rest : ∀ {H' : Hp}, Kp [b] H H' → H' m = some (.lst ([n, f].map V.int)) ∧ H' M = some (.lst (ps.map V.ref)) ∧ ThsAt X.K H' n f ps ts := fun {H'} k => ⟨k.at1 (bx.neInts hm) hm, k.at1 (bx.neRefs hM) hM, hT.draw bx k⟩
    have hid2 : Kp [b] H H2 ∧ True := ⟨k02, trivial⟩
    clear k02
    wtm_at "w"
    refine xs_forR1 C (by wtm_at "m") T.b_range ?_
    wtm_at "w"
    refine ⟨_, rfl, by omega, by omega, fun t σ H' => ∃ (v7 v8 v9 v10 v11 : Option V) (us rs : List V) (xs : List (Addr × Stp)) (ca : Addr), σ = [some (.ref b), some (.ref m), some (.ref M), some (.ref fa), some (.int c), some (.ref R), some (.ref S), v7, v8, v9, v10, v11] ∧ Kp [b] H H' ∧ Box H' b r ∧ H' R = some (.lst rs) ∧ rs.length ≤ 1 + t ∧ rs.getLast? = some (.ref ca) ∧ H' ca = some (.tup ((lastR first (xs.map (·.2))).map V.int)) ∧ isThing (lastR first (xs.map (·.2))) = true ∧ (lastR first (xs.map (·.2))).length ≤ 100 ∧ H' S = some (.lst us) ∧ StsP X.K H' us xs ∧ okW n f first (xs.map (·.2)) ∧ xs.length ≤ t ∧ (∀ x ∈ xs, PlOk x.2.2 ∧ RowOk x.2.1 ∧ x.2.1.length ≤ 100 ∧ isThing x.2.1 = true), ⟨_, _, _, _, _, [], [.ref fa], [], fa, rfl, hid2.1, b2, hR2, by simp, rfl, fa2, hft, hfl, hS, trivial, trivial, Nat.le_refl _, fun x m => nomatch m⟩, ?_, ?_⟩
    · rintro t σ' H3 ht ⟨v7, v8, v9, v10, v11, us, rs, xs, ca, rfl, k3, b3, hR3, lrs, grs, hca, tca, lca, hS3, st3, ok3, lx, gx⟩
      clear b2 hR2 hS hid2
      generalize ecur : lastR first (xs.map (·.2)) = cur at hca tca lca
      have hid3 : Kp [b] H H3 ∧ True := ⟨k3, trivial⟩
      clear k3
      wtm_at "w"
      intro AB H4 k4 nA hA
      have nAR : R ≠ AB := ne_of_none hR3 nA
      have nAS : S ≠ AB := ne_of_none hS3 nA
      have nAb := b3.nl nA
      have b4 := b3.kp k4
      have hR4 := k4.at0 hR3
      have hS4 := k4.at0 hS3
      have hca4 := k4.t _ _ hca
      have st4 := st3.kp k4
      have hid4 : Kp [b] H H4 ∧ True := ⟨hid3.1.tr0 k4, trivial⟩
      have nA0 := hid3.1.n _ nA
      clear k4 b3 hR3 hS3 hca st3 hid3
      obtain ⟨m4, M4, T4⟩ := rest hid4.1
      have back : ∀ {H' : Hp}, Kp [AB] H4 H' → Kp [b] H H' := fun {H'} k => kp_shrink ((hid4.1.wk (B := [b, AB]) (fun l m => by rw [List.mem_singleton.mp m]; simp)).tr k (fun l m => .inl (by rw [List.mem_singleton.mp m]; simp))) (fun l m => by
        rcases List.mem_cons.mp m with z | z
        · exact .inl (by rw [z]; simp)
        · rw [List.mem_singleton.mp z]; exact .inr nA0)
      wtm_at "w"
      refine xs_forL C ?_
      wtm_at "w"
      refine ⟨M, _, rfl, Z.SqL.of' M4, fun i σ H' => ∃ (v9 v10 v11 : Option V) (as : List V), σ = [some (.ref b), some (.ref m), some (.ref M), some (.ref fa), some (.int c), some (.ref R), some (.ref S), some (.int t), some (.ref AB), v9, v10, v11] ∧ Kp [AB] H4 H' ∧ H' AB = some (.lst as) ∧ as.length ≤ 210 * i ∧ (∀ y ∈ as, StA X.K H' n f cur y), ⟨_, _, _, [], rfl, Kp.refl _ _, hA, by simp, fun y m => nomatch m⟩, ?_, ?_, ?_⟩
      · rintro i σ' H' _ ⟨v9, v10, v11, as, rfl, k, _⟩
        exact Z.SqL.of' (rest (back k)).2.1
      · rintro i y σ' H5 hy ⟨v9, v10, v11, as, rfl, k5, hA5, las, gas⟩
        have hi := (List.getElem?_eq_some_iff.mp hy).1
        rw [List.length_map] at hi
        have hi60 : i < 60 := by omega
        obtain ⟨m5, M5, T5⟩ := rest (back k5)
        obtain ⟨p, tt, rfl, _, _, a', e', g1, g2, g3, g4⟩ := T5.at hy
        have hR5 := k5.at1 nAR hR4
        have hca5 := k5.t _ _ hca4
        have okr := g4.ok
        have lr := g4.len
        have thr := g4.thing
        have lpn := placesN_lenT g4
        have npA : p ≠ AB := fun z => by
          obtain ⟨_, _, T0⟩ := rest hid4.1
          obtain ⟨p', _, e0, _, _, _, _, g0, _⟩ := T0.at hy
          have e1 : p = p' := by simpa using e0
          rw [← e1, z, hA] at g0
          cases g0
        have hid5 : Kp [AB] H4 H5 ∧ True := ⟨k5, trivial⟩
        clear k5 hy m4 M4 T4
        refine xg_name C (by wtm_at "m") (by wtm_at "m") ?_
        refine ⟨_, by wtm_at "u", ?_⟩
        refine xb_cons ?_
        refine xs_forL C ?_
        wtm_at "w"
        refine vx_lst (Z.SqL.of' hR5) (at_getLast grs) ?_
        wtm_at "w"
        refine ⟨m, p, a', e', ca, n, f, tt.1, tt.2, cur, rfl, m5, g1, Z.SqT.of' g2, g3, g4, Z.SqT.of' hca5, tca, hn, fun PL pls H6 k6 nPL hPL dPL => ?_⟩
        have nPA : PL ≠ AB := (ne_of_none hA5 nPL).symm
        have hA6 := k6.at0 hA5
        have gas6 : ∀ y ∈ as, StA X.K H6 n f cur y := fun y my => (gas y my).kp k6
        have g16 := k6.at0 g1
        have g26 := k6.t _ _ g2
        have k46 := hid5.1.tr0 k6
        have lPL : pls.length ≤ 200 := by
          have := dpAll_len dPL
          rw [List.length_map] at this
          have l2 : (placesB n f tt.1 tt.2 cur).length ≤ (placesN n f tt.1 tt.2).length := by unfold placesB; rw [List.length_map]; exact List.length_filter_le _ _
          omega
        clear k6 hid5 hA5 gas g1 g2 g3 m5 M5 T5
        refine ⟨PL, pls, rfl, Z.SqL.of' hPL, fun j σ H' => ∃ (v10 v11 : Option V) (as' : List V), σ = [some (.ref b), some (.ref m), some (.ref M), some (.ref fa), some (.int c), some (.ref R), some (.ref S), some (.int t), some (.ref AB), some (.ref p), v10, v11] ∧ Kp [AB] H6 H' ∧ H' AB = some (.lst as') ∧ as'.length ≤ as.length + j ∧ (∀ y ∈ as', StA X.K H' n f cur y), ⟨_, _, as, rfl, Kp.refl _ _, hA6, by omega, gas6⟩, ?_, ?_, ?_⟩
        · rintro j σ' H' _ ⟨v10, v11, as', rfl, k, _⟩
          exact Z.SqL.of' (k.at1 nPA hPL)
        · rintro j y σ' H7 hj ⟨v10, v11, as', rfl, k7, hA7, las', gas7⟩
          have j200 : j < 200 := Nat.lt_of_lt_of_le (List.getElem?_eq_some_iff.mp hj).1 lPL
          have hjl : j < (placesB n f tt.1 tt.2 cur).length := by
            have := dpAll_len dPL
            rw [List.length_map] at this
            have := (List.getElem?_eq_some_iff.mp hj).1
            omega
          obtain ⟨y', hy', dy⟩ := dpAll_at dPL (i := j) (d := plD (placesB n f tt.1 tt.2 cur)[j]) (by rw [List.getElem?_map, List.getElem?_eq_getElem hjl]; rfl)
          have ey : y' = y := Option.some.inj (hy'.symm.trans hj)
          subst ey
          have mem := List.getElem_mem hjl
          generalize (placesB n f tt.1 tt.2 cur)[j] = pl at dy mem
          obtain ⟨d', h1, h2, h3⟩ := placesB_mem mem
          have okp := placesN_ok h1
          have sw := ahead_okT g4 h1 h2 h3
          have dy7 := dp_kpT k7 (noL_pl _) dy
          obtain ⟨pa, vs2, rfl, _, _⟩ := dp_tupI dy7
          have g17 := k7.at1 (fun z => npA (by rw [z])) g16
          have g27 := k7.t _ _ g26
          have hid7 : Kp [AB] H6 H7 ∧ True := ⟨k7, trivial⟩
          clear k7 hj hy' dy
          refine xg_name C (by wtm_at "m") (by wtm_at "m") ?_
          refine ⟨_, by wtm_at "u", ?_⟩
          wtm_at "w"
          intro T8 H8 k8 h8 _
          refine ⟨k8.at0 hA7, szl (by omega), fun H9 k9 h9 => ?_⟩
          have k79 : Kp [AB] H7 H9 := (k8.wk (fun l m => nomatch m)).tr k9 (fun l m => .inl m)
          repeat refine xb_nil ?_
          refine ⟨_, _, _, rfl, hid7.1.tr k79 (fun l m => .inl m), h9, by simp; omega, fun y my => ?_⟩
          rcases List.mem_append.mp my with z | z
          · exact (gas7 y z).kp k79
          · rw [List.mem_singleton.mp z]
            exact ⟨T8, pa, a', tt.1, pl, rfl, k9.tup h8, k79.t _ _ g27, dp_kpT k79 (noL_pl _) dy7, sw, okp, okr, lr, thr⟩
        · rintro σ' H7 ⟨v10, v11, as', rfl, k7, hA7, las', gas7⟩
          repeat refine xb_nil ?_
          exact ⟨_, _, _, as', rfl, k46.tr k7 (fun l m => .inl m), hA7, by omega, gas7⟩
      · rintro σ' H5 ⟨v9, v10, v11, as, rfl, k5, hA5, las, gas⟩
        rw [List.length_map] at las
        have hR5 := k5.at1 nAR hR4
        have hS5 := k5.at1 nAS hS4
        have hca5 := k5.t _ _ hca4
        have st5 := st4.kp k5
        have b5 := b4.kp1 k5 nAb
        have hid5 : Kp [b] H H5 ∧ True := ⟨back k5, trivial⟩
        have nAb' : AB ≠ b := Ne.symm nAb.1
        clear k5 hR4 hS4 hca4 st4 b4 hid4 m4 M4 T4
        wtm_at "w"
        wtm_at "w"
        refine ite_d (fun h0 => ?_) (fun h0 => ?_)
        · wtm_at "w"
          refine ⟨b, r, _, rfl, b5, h0, fun v H6 v0 v1 k6 b6 => ?_⟩
          obtain ⟨j, rfl⟩ := Int.eq_ofNat_of_zero_le v0
          have hj : j < as.length := by omega
          have hA6 := k6.at1 nAb' hA5
          have hR6 := k6.at1 (Ne.symm nRb.1) hR5
          have hS6 := k6.at1 (Ne.symm nSb.1) hS5
          have hca6 := k6.t _ _ hca5
          have st6 := st5.kp k6
          have sa := (gas as[j] (List.getElem_mem hj)).kp k6
          have haj : as[j]? = some as[j] := List.getElem?_eq_getElem hj
          generalize as[j] = y at sa haj
          obtain ⟨T6, pa, na, row, pl, rfl, s1, s2, s3, sw, okp, okr, lr, thr⟩ := sa
          have hid6 : Kp [b] H H6 ∧ True := ⟨hid5.1.tr k6 (fun l m => .inl m), trivial⟩
          clear k6 b5 hA5 hR5 hS5 hca5 st5 hid5 gas
          refine vx_lst (Z.SqL.of' hA6) (at_nat haj) ?_
          have lu := st6.len
          refine ⟨_, by wtm_at "u", ?_⟩
          refine xb_cons ?_
          refine xs_expr ?_
          refine xe_append ?_
          wtm_at "w"
          refine ⟨hS6, szl (by omega), fun H7 k7 hS7 => ?_⟩
          have hR7 := k7.at1 nRS hR6
          have b7 := b6.kp1 k7 nSb
          have s17 := k7.tup s1
          have hid7 : Kp [b] H H7 ∧ True := ⟨kp_shrink ((hid6.1.wk (B := [b, S]) (fun l m => by rw [List.mem_singleton.mp m]; simp)).tr k7 (fun l m => .inl (by rw [List.mem_singleton.mp m]; simp))) (fun l m => by
            rcases List.mem_cons.mp m with z | z
            · exact .inl (by rw [z]; simp)
            · rw [List.mem_singleton.mp z]; exact .inr nS0), trivial⟩
          have st7 : StsP X.K H7 (us ++ [.ref T6]) (xs ++ [(na, (row, pl))]) := (st6.kp k7).app ⟨⟨T6, pa, rfl, k7.tup s1, k7.t _ _ s2, dp_kpT k7 (noL_pl _) s3⟩, trivial⟩
          have s27 := k7.t _ _ s2
          clear k7 hA6 hR6 hS6 hca6 st6 s1 s2 s3 hid6 b6
          wtm_at "w"
          refine ⟨hR7, szl (by omega), fun H8 k8 hR8 => ?_⟩
          have el : lastR first ((xs ++ [(na, (row, pl))]).map (·.2)) = row := by rw [List.map_append, lastR_app]; rfl
          repeat refine xb_nil ?_
          refine ⟨_, _, _, _, _, us ++ [.ref T6], rs ++ [.ref na], xs ++ [(na, (row, pl))], na, rfl, ?_, b7.kp1 k8 nRb, hR8, by simp; omega, by simp, ?_, ?_, ?_, k8.at1 (Ne.symm nRS) hS7, st7.kp k8, ?_, by simp; omega, fun x mx => ?_⟩
          · exact kp_shrink ((hid7.1.wk (B := [b, R]) (fun l m => by rw [List.mem_singleton.mp m]; simp)).tr k8 (fun l m => .inl (by rw [List.mem_singleton.mp m]; simp))) (fun l m => by
              rcases List.mem_cons.mp m with z | z
              · exact .inl (by rw [z]; simp)
              · rw [List.mem_singleton.mp z]; exact .inr nR)
          · rw [el]; exact k8.t _ _ s27
          · rw [el]; exact thr
          · rw [el]; exact lr
          · rw [List.map_append]
            exact okW_app ok3 ⟨by rw [ecur]; exact sw, trivial⟩
          · rcases List.mem_append.mp mx with z | z
            · exact gx x z
            · rw [List.mem_singleton.mp z]; exact ⟨okp, okr, lr, thr⟩
        · wtm_at "w"
          exact ⟨_, _, _, _, _, us, rs, xs, ca, rfl, hid5.1, b5, hR5, by omega, grs, by rw [ecur]; exact hca5, by rw [ecur]; exact tca, by rw [ecur]; exact lca, hS5, st5, ok3, by omega, gx⟩
    · rintro σ' H3 ⟨v7, v8, v9, v10, v11, us, rs, xs, ca, rfl, k3, b3, hR3, lrs, grs, hca, tca, lca, hS3, st3, ok3, lx, gx⟩
      wtm_at "w"
      exact q S us xs H3 k3 b3 nS0 hS3 st3 ok3 (by omega) gx
end
/-! dflt -/
/-! the greatest, the least of a list of numbers, with default=None -/
section
open PyProof.Rows PySem.W
theorem foldmax_mem : ∀ (ns : List Int) (n : Int), ns.foldl max n ∈ n :: ns ∧ ∀ y ∈ n :: ns, y ≤ ns.foldl max n
  | [], n => ⟨by simp, fun y m => by rw [List.mem_singleton.mp m]; exact Int.le_refl _⟩
  | m :: r, n => by
    rw [List.foldl_cons]
    obtain ⟨a, b⟩ := foldmax_mem r (max n m)
    have b0 := b (max n m) List.mem_cons_self
    refine ⟨?_, fun y my => ?_⟩
    · rcases List.mem_cons.mp a with e | e
      · by_cases h : n ≤ m
        · have : max n m = m := by omega
          rw [e, this]; simp
        · have : max n m = n := by omega
          rw [e, this]; simp
      · simp [e]
    · simp only [List.mem_cons] at my
      rcases my with e | e | e
      · rw [e]; omega
      · rw [e]; omega
      · exact b y (List.mem_cons_of_mem _ e)
theorem foldmin_mem : ∀ (ns : List Int) (n : Int), ns.foldl min n ∈ n :: ns ∧ ∀ y ∈ n :: ns, ns.foldl min n ≤ y
  | [], n => ⟨by simp, fun y m => by rw [List.mem_singleton.mp m]; exact Int.le_refl _⟩
  | m :: r, n => by
    rw [List.foldl_cons]
    obtain ⟨a, b⟩ := foldmin_mem r (min n m)
    have b0 := b (min n m) List.mem_cons_self
    refine ⟨?_, fun y my => ?_⟩
    · rcases List.mem_cons.mp a with e | e
      · by_cases h : n ≤ m
        · have : min n m = n := by omega
          rw [e, this]; simp
        · have : min n m = m := by omega
          rw [e, this]; simp
      · simp [e]
    · simp only [List.mem_cons] at my
      rcases my with e | e | e
      · rw [e]; omega
      · rw [e]; omega
      · exact b y (List.mem_cons_of_mem _ e)
theorem alike_ints (ns : List Int) : AlikeAll (ns.map PyData.int) := by
  constructor
  · intro x hx y hy
    obtain ⟨a, _, rfl⟩ := List.mem_map.mp hx
    obtain ⟨b, _, rfl⟩ := List.mem_map.mp hy
    rfl
  · intro x hx
    obtain ⟨a, _, rfl⟩ := List.mem_map.mp hx
    exact fun h => nomatch h
def tDflt (K : PySem.W.Frag) (best : Int → Int → Prop) (ta : TA) : TE := fun σ H Q => ta σ H fun vs H1 => ∃ (p : Addr) (ns : List Int), vs = [.ref p] ∧ SqL K H1 p (ns.map V.int) ∧ (ns = [] → Q .non H1) ∧ ∀ m, m ∈ ns → (∀ y ∈ ns, best y m) → Q (.int m) H1
section
variable {X : Cx} {σ : L2.St} {H : Hp} {Q : VK} {N Vs Ls G : List Str} {k : Nat} {sc : Scope} {e : Expr} {ta : TA} {p1 p2 kp pos : Pos} {j : Nat}
theorem pe_maxD (hc : X.calm = true) (hu : X.A.units + 1 < cLine) (hg : Gl X "max") (hm : X.mg "max" = none) (ha : PA X [e] ta)
    (he : backTo pos (starEach [e] X.env) = (false, eval e X.env) :: backTo pos (starEach [] X.env)) (hpl : (backTo pos (starEach [e] X.env)).any (·.1) = false) :
    PE X (.Call (.Name "max" p1) [e] [⟨some "default", .Constant .none j p2, kp⟩] pos) (tDflt X.K (fun y m => y ≤ m) ta) := by
  refine ⟨fun pins s σ H Q I h => ?_⟩
  refine wpAny_Call_Name_kw (ld_blt I hg hm boot_max ?_)
  refine callWith_kw (he := he) (hplain := hpl) (thn (ha.run pos pins s σ H _ I h) ?_)
  rintro us s1 ⟨vs, H1, I1, r1, p, ns, rfl, hs, q0, q1⟩
  obtain ⟨its, rv, hl, _⟩ := I1.list hs
  rw [Vals.ref1 r1]
  refine kws_cons (Constant_none (kws_nil ?_))
  show wpAny _ _ (call (.builtin _) [.ref p] [(Str.ofString "default", .none)]) _ _ _
  refine max_list_default (xs := ns.map PyData.int) (I1.ok.hd hc) hl.isList (by simpa using ints_readAll s1.heap rv.ints) (alike_ints ns) (by rw [depth_ints]; exact hu) (fun h0 h' tk hk => ?_) (fun y ys i v h' tk bs h1 _ hr hk => ?_)
  · exact ⟨.non, H1, I1.kept hk, rfl, q0 (by simpa using h0)⟩
  · cases ns with
    | nil => cases h1
    | cons n r =>
      have e1 : y = .int n := by simpa using (List.cons.inj h1).1.symm
      have e2 : ys = r.map PyData.int := by simpa using (List.cons.inj h1).2.symm
      subst e1; subst e2
      rw [maxD_ints] at hr
      obtain ⟨m1, m2⟩ := foldmax_mem r n
      cases hr with
      | int i t => exact ⟨.int _, H1, I1.kept hk, ⟨_, rfl⟩, q1 _ m1 m2⟩
theorem pe_minD (hc : X.calm = true) (hu : X.A.units + 1 < cLine) (hg : Gl X "min") (hm : X.mg "min" = none) (ha : PA X [e] ta)
    (he : backTo pos (starEach [e] X.env) = (false, eval e X.env) :: backTo pos (starEach [] X.env)) (hpl : (backTo pos (starEach [e] X.env)).any (·.1) = false) :
    PE X (.Call (.Name "min" p1) [e] [⟨some "default", .Constant .none j p2, kp⟩] pos) (tDflt X.K (fun y m => m ≤ y) ta) := by
  refine ⟨fun pins s σ H Q I h => ?_⟩
  refine wpAny_Call_Name_kw (ld_blt I hg hm boot_min ?_)
  refine callWith_kw (he := he) (hplain := hpl) (thn (ha.run pos pins s σ H _ I h) ?_)
  rintro us s1 ⟨vs, H1, I1, r1, p, ns, rfl, hs, q0, q1⟩
  obtain ⟨its, rv, hl, _⟩ := I1.list hs
  rw [Vals.ref1 r1]
  refine kws_cons (Constant_none (kws_nil ?_))
  show wpAny _ _ (call (.builtin _) [.ref p] [(Str.ofString "default", .none)]) _ _ _
  refine min_list_default (xs := ns.map PyData.int) (I1.ok.hd hc) hl.isList (by simpa using ints_readAll s1.heap rv.ints) (alike_ints ns) (by rw [depth_ints]; exact hu) (fun h0 h' tk hk => ?_) (fun y ys i v h' tk bs h1 _ hr hk => ?_)
  · exact ⟨.non, H1, I1.kept hk, rfl, q0 (by simpa using h0)⟩
  · cases ns with
    | nil => cases h1
    | cons n r =>
      have e1 : y = .int n := by simpa using (List.cons.inj h1).1.symm
      have e2 : ys = r.map PyData.int := by simpa using (List.cons.inj h1).2.symm
      subst e1; subst e2
      rw [minD_ints] at hr
      obtain ⟨m1, m2⟩ := foldmin_mem r n
      cases hr with
      | int i t => exact ⟨.int _, H1, I1.kept hk, ⟨_, rfl⟩, q1 _ m1 m2⟩
theorem xe_maxD (C : Ctx X sc N Vs Ls G k) (hg : Mem G "max") (hm : X.mg "max" = none) (h : XE X e σ H fun v H1 => ∃ (p : Addr) (ns : List Int), v = .ref p ∧ SqL X.K H1 p (ns.map V.int) ∧ (ns = [] → Q .non H1) ∧ ∀ m, m ∈ ns → (∀ y ∈ ns, y ≤ m) → Q (.int m) H1)
    (hs : starEach [e] X.env = (false, eval e X.env) :: starEach [] X.env := by rfl) (he : backTo pos (starEach [e] X.env) = (false, eval e X.env) :: backTo pos (starEach [] X.env) := by rfl) (hpl : (backTo pos (starEach [e] X.env)).any (·.1) = false := by rfl) : XE X (.Call (.Name "max" p1) [e] [⟨some "default", .Constant .none j p2, kp⟩] pos) σ H Q :=
  ⟨_, pe_maxD C.calm C.hu (C.gl hg) hm XA.pa he hpl, xa_cons (hs := hs) (XE.mono h fun v H1 ⟨p, ns, e, h1, h2, h3⟩ => xa_nil ⟨p, ns, by rw [e], h1, h2, h3⟩)⟩
theorem xe_minD (C : Ctx X sc N Vs Ls G k) (hg : Mem G "min") (hm : X.mg "min" = none) (h : XE X e σ H fun v H1 => ∃ (p : Addr) (ns : List Int), v = .ref p ∧ SqL X.K H1 p (ns.map V.int) ∧ (ns = [] → Q .non H1) ∧ ∀ m, m ∈ ns → (∀ y ∈ ns, m ≤ y) → Q (.int m) H1)
    (hs : starEach [e] X.env = (false, eval e X.env) :: starEach [] X.env := by rfl) (he : backTo pos (starEach [e] X.env) = (false, eval e X.env) :: backTo pos (starEach [] X.env) := by rfl) (hpl : (backTo pos (starEach [e] X.env)).any (·.1) = false := by rfl) : XE X (.Call (.Name "min" p1) [e] [⟨some "default", .Constant .none j p2, kp⟩] pos) σ H Q :=
  ⟨_, pe_minD C.calm C.hu (C.gl hg) hm XA.pa he hpl, xa_cons (hs := hs) (XE.mono h fun v H1 ⟨p, ns, e, h1, h2, h3⟩ => xa_nil ⟨p, ns, by rw [e], h1, h2, h3⟩)⟩
end
end
/-! p5 -/
/-! papers told with the places of their rows; pairs of a number and a thing -/
abbrev P5 := Addr × List Int × List (Addr × Stp)
def ss5 (x : P5) : List Stp := x.2.2.map (·.2)
def ls5 (x : P5) : List Int := lastR x.2.1 (ss5 x)
def la5 (x : P5) : Addr := lastA x.1 x.2.2
def ok5 (n f : Int) (x : P5) : Bool := decide (papFault n f x.2.1 (ss5 x) = none)
def d5 : P5 := (0, [], [])
structure P5ok (x : P5) : Prop where
  th : isThing x.2.1 = true
  lf : x.2.1.length ≤ 100
  ls : x.2.2.length ≤ 20
  st : ∀ s ∈ x.2.2, PlOk s.2.2 ∧ RowOk s.2.1 ∧ s.2.1.length ≤ 100 ∧ isThing s.2.1 = true
theorem P5ok.ro {x : P5} (h : P5ok x) : ∀ s ∈ ss5 x, RowOk s.1 := fun s m => by
  obtain ⟨y, m', rfl⟩ := List.mem_map.mp m
  exact (h.st y m').2.1
theorem lastR_in : ∀ (ss : List Stp) (bs : List Int), lastR bs ss = bs ∨ ∃ s ∈ ss, lastR bs ss = s.1
  | [], bs => .inl rfl
  | s :: r, bs => by
    rcases lastR_in r s.1 with e | ⟨u, m, e⟩
    · exact .inr ⟨s, List.mem_cons_self, e⟩
    · exact .inr ⟨u, List.mem_cons_of_mem _ m, e⟩
theorem P5ok.ll {x : P5} (h : P5ok x) : (ls5 x).length ≤ 100 := by
  unfold ls5
  rcases lastR_in (ss5 x) x.2.1 with e | ⟨s, m, e⟩
  · rw [e]; exact h.lf
  · rw [e]
    obtain ⟨y, m', rfl⟩ := List.mem_map.mp m
    exact (h.st y m').2.2.1
section
variable {K : PySem.W.Frag} {CP : Addr} {H H' : Hp} {ps : List Addr} {xs : List P5}
def PpsP (K : PySem.W.Frag) (CP : Addr) (H : Hp) (ps : List Addr) (xs : List P5) : Prop := ps.length = xs.length ∧ ∀ (i : Nat) (p : Addr) (x : P5), ps[i]? = some p → xs[i]? = some x → PpP K CP H p x.1 x.2.1 x.2.2 ∧ P5ok x
theorem PpsP.kp (h : PpsP K CP H ps xs) (k : Kp [] H H') : PpsP K CP H' ps xs := ⟨h.1, fun i p x a b => ⟨(h.2 i p x a b).1.kp k, (h.2 i p x a b).2⟩⟩
theorem PpsP.at {i : Nat} {y : V} (h : PpsP K CP H ps xs) (hy : (ps.map V.ref)[i]? = some y) : ∃ p x, y = .ref p ∧ ps[i]? = some p ∧ xs[i]? = some x ∧ PpP K CP H p x.1 x.2.1 x.2.2 ∧ P5ok x := by
  rw [List.getElem?_map] at hy
  obtain ⟨p, hp, rfl⟩ := Option.map_eq_some_iff.mp hy
  have hi := (List.getElem?_eq_some_iff.mp hp).1
  have hx : xs[i]? = some (xs[i]'(by rw [← h.1]; exact hi)) := List.getElem?_eq_getElem _
  exact ⟨p, _, rfl, hp, hx, h.2 i p _ hp hx⟩
theorem PpsP.snoc {p : Addr} {x : P5} (h : PpsP K CP H ps xs) (g : PpP K CP H p x.1 x.2.1 x.2.2) (o : P5ok x) : PpsP K CP H (ps ++ [p]) (xs ++ [x]) := by
  refine ⟨by simp [h.1], fun i p' t' a c => ?_⟩
  by_cases hi : i < ps.length
  · rw [List.getElem?_append_left hi] at a
    rw [List.getElem?_append_left (by rw [← h.1]; exact hi)] at c
    exact h.2 i p' t' a c
  · rw [List.getElem?_append_right (by omega)] at a
    rw [List.getElem?_append_right (by rw [← h.1]; omega)] at c
    have i0 : i - ps.length = 0 := by
      have := (List.getElem?_eq_some_iff.mp a).1
      simp at this; omega
    rw [i0] at a
    rw [show i - xs.length = 0 by rw [← h.1]; exact i0] at c
    have e1 : p = p' := by simpa using a
    have e2 : x = t' := by simpa using c
    rw [← e1, ← e2]; exact ⟨g, o⟩
theorem PpsP.nil : PpsP K CP H [] [] := ⟨rfl, fun i p x a _ => by simp at a⟩
/-- pairs -/
def PrsAt (K : PySem.W.Frag) (H : Hp) : List V → List (Int × V) → Prop
  | [], [] => True
  | u :: us, e :: es => (∃ T : Addr, u = .ref T ∧ SqT K H T [.int e.1, e.2]) ∧ PrsAt K H us es
  | _, _ => False
theorem PrsAt.kp {A : List Addr} (k : Kp A H H') : ∀ {us : List V} {es : List (Int × V)}, PrsAt K H us es → PrsAt K H' us es
  | [], [], _ => trivial
  | _ :: _, _ :: _, ⟨⟨T, e, h1⟩, h⟩ => ⟨⟨T, e, k.tup h1⟩, PrsAt.kp k h⟩
theorem PrsAt.len : ∀ {us : List V} {es : List (Int × V)}, PrsAt K H us es → us.length = es.length
  | [], [], _ => rfl
  | _ :: _, _ :: _, h => by rw [List.length_cons, List.length_cons, h.2.len]
theorem PrsAt.snoc {T : Addr} {a : Int} {v : V} (g : SqT K H T [.int a, v]) : ∀ {us : List V} {es : List (Int × V)}, PrsAt K H us es → PrsAt K H (us ++ [.ref T]) (es ++ [(a, v)])
  | [], [], _ => ⟨⟨T, rfl, g⟩, trivial⟩
  | _ :: _, _ :: _, h => ⟨h.1, h.2.snoc g⟩
theorem PrsAt.at : ∀ {us : List V} {es : List (Int × V)} {i : Nat} {v : V}, PrsAt K H us es → us[i]? = some v → ∃ e, es[i]? = some e ∧ ∃ T : Addr, v = .ref T ∧ SqT K H T [.int e.1, e.2]
  | [], [], _, _, _, e => by simp at e
  | v :: _, x :: _, 0, u, h, e => by
    have : v = u := by simpa using e
    subst this
    exact ⟨x, rfl, h.1⟩
  | _ :: _, _ :: _, i + 1, u, h, e => by
    obtain ⟨y, h1, h2⟩ := h.2.at (i := i) (by simpa using e)
    exact ⟨y, by simpa using h1, h2⟩
end
/-- the numbers below t that are chosen -/
def selG (G : Nat → Bool) (t : Nat) : List Nat := (List.range t).filter G
theorem selG_pos {G : Nat → Bool} {t : Nat} (h : G t = true) : selG G (t + 1) = selG G t ++ [t] := by
  unfold selG; rw [List.range_succ, List.filter_append]; simp [h]
theorem selG_neg {G : Nat → Bool} {t : Nat} (h : G t = false) : selG G (t + 1) = selG G t := by
  unfold selG; rw [List.range_succ, List.filter_append]; simp [h]
theorem selG_le (G : Nat → Bool) (t : Nat) : (selG G t).length ≤ t := Nat.le_trans (List.length_filter_le _ _) (by simp)
theorem selG_mem {G : Nat → Bool} {t k : Nat} (h : k ∈ selG G t) : k < t ∧ G k = true := by
  obtain ⟨a, b⟩ := List.mem_filter.mp h
  exact ⟨List.mem_range.mp a, b⟩
def prs (G : Nat → Bool) (hr : Nat → Int) (vl : Nat → V) (t : Nat) : List (Int × V) := (selG G t).map fun k => (hr k, vl k)
theorem prs_pos {G : Nat → Bool} {hr : Nat → Int} {vl : Nat → V} {t : Nat} (h : G t = true) : prs G hr vl (t + 1) = prs G hr vl t ++ [(hr t, vl t)] := by
  unfold prs; rw [selG_pos h, List.map_append]; rfl
theorem prs_neg {G : Nat → Bool} {hr : Nat → Int} {vl : Nat → V} {t : Nat} (h : G t = false) : prs G hr vl (t + 1) = prs G hr vl t := by unfold prs; rw [selG_neg h]
theorem prs_le (G : Nat → Bool) (hr : Nat → Int) (vl : Nat → V) (t : Nat) : (prs G hr vl t).length ≤ t := by unfold prs; rw [List.length_map]; exact selG_le G t
theorem prs_fst (G : Nat → Bool) (hr : Nat → Int) (vl : Nat → V) (t : Nat) : (prs G hr vl t).map (·.1) = (selG G t).map hr := by unfold prs; rw [List.map_map]; rfl
/-- the papers from noted beacons to a row, those from a row to seen heads -/
def okB5 (n f : Int) (bs : List (List Int)) (row : List Int) (xs : List P5) (k : Nat) : Bool := decide ((xs.getD k d5).2.1 ∈ bs) && (decide (ls5 (xs.getD k d5) = row) && ok5 n f (xs.getD k d5))
def hrB5 (xs : List P5) (k : Nat) : Int := (xs.getD k d5).2.1.getD 1 0
def okH5 (n f : Int) (hs : List (List Int × Int)) (row : List Int) (xs : List P5) (k : Nat) : Bool := (lkR hs (ls5 (xs.getD k d5))).isSome && (decide ((xs.getD k d5).2.1 = row) && ok5 n f (xs.getD k d5))
def hrH5 (hs : List (List Int × Int)) (xs : List P5) (k : Nat) : Int := (lkR hs (ls5 (xs.getD k d5))).getD 0
def vlP5 (ps : List Addr) (k : Nat) : V := .ref (ps.getD k 0)
theorem getD_of {α : Type} {l : List α} {i : Nat} {x d : α} (h : l[i]? = some x) : l.getD i d = x := by
  rw [List.getD_eq_getElem?_getD, h]; rfl
/-- the greatest, the least -/
def mxO : List Int → Option Int
  | [] => none
  | n :: r => some (r.foldl max n)
def mnO : List Int → Option Int
  | [] => none
  | n :: r => some (r.foldl min n)
theorem mxO_of {ns : List Int} {m : Int} (h : m ∈ ns) (g : ∀ y ∈ ns, y ≤ m) : mxO ns = some m := by
  cases ns with
  | nil => cases h
  | cons n r =>
    obtain ⟨a, b⟩ := foldmax_mem r n
    have h1 := b m h
    have h2 := g _ a
    show some _ = some m
    congr 1; omega
theorem mnO_of {ns : List Int} {m : Int} (h : m ∈ ns) (g : ∀ y ∈ ns, m ≤ y) : mnO ns = some m := by
  cases ns with
  | nil => cases h
  | cons n r =>
    obtain ⟨a, b⟩ := foldmin_mem r n
    have h1 := b m h
    have h2 := g _ a
    show some _ = some m
    congr 1; omega
theorem mxO_in {ns : List Int} {m : Int} (h : mxO ns = some m) : m ∈ ns := by
  cases ns with
  | nil => cases h
  | cons n r => rw [← Option.some.inj h]; exact (foldmax_mem r n).1
theorem mnO_in {ns : List Int} {m : Int} (h : mnO ns = some m) : m ∈ ns := by
  cases ns with
  | nil => cases h
  | cons n r => rw [← Option.some.inj h]; exact (foldmin_mem r n).1
def oV (o : Option Int) : V := (o.map V.int).getD .non
def oD (o : Option Int) : PyData := (o.map PyData.int).getD .none
theorem dp_opt {K : PySem.W.Frag} {H : Hp} (o : Option Int) : Dp K H (oV o) (oD o) := by
  cases o with
  | none => exact .non
  | some i => exact .int i
/-! noted -/
section
local macro_rules | `(tactic| wtm_at "d") => `(tactic| fail)
def sp_noted (CN CM : Addr) : Sp := fun vs H Q _ => ∃ (a p dx mx dB dH : Addr) (t n f : Int) (bs : List (List Int)) (hs : List (List Int × Int)) (rs : List Int), vs = [.ref a, .ref p] ∧ NbAt CN CM H a dx mx dB dH t n f bs hs ∧ H p = some (.tup (rs.map V.int)) ∧ Q (.bl (decide (rs ∈ bs))) H
theorem ok_has_noted (T : Txt P w K mg base) : MetOk P w K mg base T.C_Notebook "has_noted" ["self", "row"] 1 (sp_noted T.C_Notebook T.C_Mixing) := by
  obtain ⟨fn, fd, M, F, bi⟩ := T.m_Notebook_has_noted
  refine ⟨fn, fd, fnOk_by F sc_Notebook_has_noted oc_Notebook_has_noted (fun vs H Q E h => ?_) (fun X e1 e2 e3 e4 e5 C H vs Q E h => ?_), M, bi⟩
  · obtain ⟨a, p, dx, mx, dB, dH, t, n, f, bs, hs, rs, rfl, _⟩ := h; rfl
  · obtain ⟨a, p, dx, mx, dB, dH, t, n, f, bs, hs, rs, rfl, nb, hp, q⟩ := h
    obtain ⟨kb, hB, lk, hk⟩ := nb.hB
    wtm_at "go"
    wtm_at "w"
    refine xe_fld ?_
    wtm_at "w"
    refine ⟨a, _, dx, _, _, rfl, nb.ha, T.cl_Notebook, T.na_Notebook__beacons, nb_b mx dB dH t, ?_⟩
    refine vo_inD C (.inr ⟨_, keyOf rs, p, .inl hB, rfl, by rw [keyOf_kV]; exact hp, rfl⟩) ?_
    rw [hk rs]
    exact q
end
/-! fromB -/
section
local macro_rules | `(tactic| wtm_at "d") => `(tactic| first | ((with_reducible show Z.XE _ (PySem.Expr.Call (PySem.Expr.Name "is_accepted" _) (_ :: _) [] _) _ _ _); refine Z.xe_call (by assumption) (Law.ok_is_accepted T) (by wtm_at "m") (by omega) ?_) | ((with_reducible show Z.XE _ (PySem.Expr.Call (PySem.Expr.Name "rows_of" _) (_ :: _) [] _) _ _ _); refine Z.xe_call (by assumption) (Law.ok_rows_of T) (by wtm_at "m") (by omega) ?_) | fail)
def sp_fromB (K : PySem.W.Frag) (CN CM CP : Addr) : Sp := fun vs H Q _ => ∃ (a ra L dx mx dB dH : Addr) (t n f : Int) (bs : List (List Int)) (hs : List (List Int × Int)) (row : List Int) (ps : List Addr) (xs : List P5), vs = [.ref a, .ref ra, .ref L] ∧ NbAt CN CM H a dx mx dB dH t n f bs hs ∧ H ra = some (.tup (row.map V.int)) ∧ H L = some (.lst (ps.map V.ref)) ∧ PpsP K CP H ps xs ∧ ps.length ≤ 100 ∧ 0 < n ∧ row.length ≤ 100 ∧ (∀ r ∈ bs, 2 ≤ r.length) ∧
  ∀ (R : Addr) (us : List V) H', Kp [] H H' → H R = none → H' R = some (.lst us) → PrsAt K H' us (prs (okB5 n f bs row xs) (hrB5 xs) (vlP5 ps) ps.length) → Q (.ref R) H'
theorem ok__from_beacons (T : Txt P w K mg base) : DefOk P w K mg base "_from_beacons" ["notebook", "row", "papers"] 12 (sp_fromB K T.C_Notebook T.C_Mixing T.C_Paper) := by
  refine DefOk.by T.d__from_beacons sc__from_beacons oc__from_beacons (fun vs H Q E h => ?_) (fun X e1 e2 e3 e4 e5 C H vs Q E h => ?_)
  · obtain ⟨a, ra, L, dx, mx, dB, dH, t, n, f, bs, hs, row, ps, xs, rfl, _⟩ := h; rfl
  · obtain ⟨a, ra, L, dx, mx, dB, dH, t, n, f, bs, hs, row, ps, xs, rfl, nb, hra, hL, hP, lp, hn, lr, b2, q⟩ := h
    wtm_at "go"
    refine xs_ret ?_
    refine xe_lc C ?_
    refine xlc_L (Vs' := ["notebook", "row", "paper"]) (G' := ["rows_of", "is_accepted"]) (nm := "paper") (i := 3) (by assumption) ⟨rfl, by decide +kernel, by decide +kernel, rfl, by decide +kernel, by decide⟩ ?_
    wtm_at "w"
    refine ⟨L, _, rfl, Z.SqL.of' hL, fun R H1 k1 nR hR => ⟨fun i H' => Kp [] H H' ∧ ∃ us, H' R = some (.lst us) ∧ PrsAt X.K H' us (prs (okB5 n f bs row xs) (hrB5 xs) (vlP5 ps) i), ⟨k1, [], hR, trivial⟩, ?_, ?_, ?_⟩⟩
    · rintro i H' _ ⟨k, _⟩
      exact Z.SqL.of' (k.at0 hL)
    · rintro i y H2 hy ⟨k2, us, h2, d2⟩
      obtain ⟨p, x, rfl, hpi, hxi, hp, ho⟩ := (hP.kp k2).at hy
      have gx := getD_of (d := d5) hxi
      have gp := getD_of (d := 0) hpi
      have li := (List.getElem?_eq_some_iff.mp hpi).1
      have hv : vlP5 ps i = .ref p := by unfold vlP5; rw [gp]
      have lus := d2.len
      have lpr := prs_le (okB5 n f bs row xs) (hrB5 xs) (vlP5 ps) i
      have nb2 := car k2 nb
      have hra2 := k2.t _ _ hra
      have hid2 : Kp [] H H2 ∧ True := ⟨k2, trivial⟩
      have ro := ho.ro
      have ls := ho.ls
      have hG : okB5 n f bs row xs i = (decide (x.2.1 ∈ bs) && (decide (ls5 x = row) && ok5 n f x)) := by unfold okB5; rw [gx]
      have hh : hrB5 xs i = x.2.1.getD 1 0 := by unfold hrB5; rw [gx]
      have fin : okB5 n f bs row xs i = false → ∀ H', Kp [] H2 H' → Kp [] H H' ∧ ∃ us, H' R = some (.lst us) ∧ PrsAt X.K H' us (prs (okB5 n f bs row xs) (hrB5 xs) (vlP5 ps) (i + 1)) := fun e H' k => ⟨hid2.1.tr0 k, us, k.at0 h2, by rw [prs_neg e]; exact d2.kp k⟩
      clear k1 k2 hP nb hra
      refine ⟨_, by wtm_at "u", ?_⟩
      intro s0 H0 c' cl fp C'
      obtain ⟨dx', st', vs', q1, q2, q3, q4⟩ := id hp
      wtm_at "w"
      refine xe_meth (by assumption) (ok_has_noted T) T.cl_Notebook (by omega) ?_
      wtm_at "w"
      refine ⟨a, dx, _, rfl, nb2.ha, nb_no mx dB dH t (by decide +kernel) (by decide +kernel) (by decide +kernel) (by decide +kernel), ?_⟩
      refine xa_cons ?_
      refine xe_fld ?_
      wtm_at "w"
      refine ⟨p, _, dx', _, _, rfl, q1, T.cl_Paper, T.na_Paper_first, pap_f _ _, ?_⟩
      wtm_at "w"
      refine ⟨a, x.1, dx, mx, dB, dH, t, n, f, bs, hs, x.2.1, rfl, nb2, q4, ?_⟩
      by_cases c1 : x.2.1 ∈ bs
      · rw [decide_eq_true c1] at hG ⊢
        wtm_at "w"
        refine ⟨p, x.1, x.2.1, x.2.2, rfl, hp, by omega, fun RL H3 k3 n3 h3 => ?_⟩
        wtm_at "w"
        refine vx_lst (Z.SqL.of' h3) (at_getLast (lastA_at x.2.2 x.1)) ?_
        have lt := lastA_tup (q3.kp k3) (k3.t _ _ q4)
        have hra3 := k3.t _ _ hra2
        have hp3 := hp.kp k3
        have nb3 := car k3 nb2
        have q13 := k3.at0 q1
        have k23 := k3
        clear k3 hp q1 q2 q3 h3 nb2
        wtm_at "w"
        refine vo_eqT (by assumption) (Z.SqT.of' lt) (Z.SqT.of' hra3) ?_
        by_cases c2 : ls5 x = row
        · rw [decide_eq_true c2] at hG
          rw [show decide (lastR x.2.1 (x.2.2.map (·.2)) = row) = true from decide_eq_true c2]
          wtm_at "w"
          refine xe_fld ?_
          wtm_at "w"
          refine ⟨a, _, dx, _, _, rfl, nb3.ha, T.cl_Notebook, T.na_Notebook_mixing, nb_m mx dB dH t, ?_⟩
          wtm_at "w"
          refine ⟨mx, p, n, f, x.2.1, ss5 x, rfl, nb3.hx, hn, hp3.at, ro, fun H4 k4 => ?_⟩
          have q14 := k4.at0 q13
          have hp4 := hp3.kp k4
          have k24 := k23.tr0 k4
          clear k4 hp3 nb3 q13 k23 lt hra3
          by_cases c3 : papFault n f x.2.1 (ss5 x) = none
          · rw [show ok5 n f x = true from decide_eq_true c3] at hG
            rw [decide_eq_true c3]
            have hf := b2 _ c1
            obtain ⟨_, _, _, _, _, _, hfa⟩ := hp4
            wtm_at "w"
            intro s1 H01 c1' cl1 fp1 C1'
            wtm_at "w"
            refine xe_fld ?_
            wtm_at "w"
            refine ⟨p, _, dx', _, _, rfl, q14, T.cl_Paper, T.na_Paper_first, pap_f _ _, ?_⟩
            wtm_at "w"
            refine vx_tup (Z.SqT.of' hfa) (at_getD 1 (by omega)) ?_
            wtm_at "w"
            intro TT H5 k5 h5 _
            have k25 := k24.tr0 k5
            refine ⟨us, k25.at0 h2, szl (by omega), fun H6 k6 h6 => ⟨(hid2.1.tr0 k25).tr1 k6 (.inr nR), _, h6, ?_⟩⟩
            rw [prs_pos hG, hh, hv]
            exact PrsAt.snoc (k6.tup h5) (PrsAt.kp k6 (PrsAt.kp k25 d2))
          · rw [show ok5 n f x = false from decide_eq_false c3] at hG
            rw [decide_eq_false c3]
            wtm_at "w"
            exact fin hG _ k24
        · rw [decide_eq_false c2] at hG
          rw [show decide (lastR x.2.1 (x.2.2.map (·.2)) = row) = false from decide_eq_false c2]
          wtm_at "w"
          exact fin hG _ k23
      · rw [decide_eq_false c1] at hG ⊢
        wtm_at "w"
        exact fin hG _ (Kp.refl _ _)
    · rintro H2 ⟨k2, us, h2, d2⟩
      rw [List.length_map] at d2
      exact q R us H2 k2 nR h2 d2
end
/-! toH -/
section
local macro_rules | `(tactic| wtm_at "d") => `(tactic| first | ((with_reducible show Z.XE _ (PySem.Expr.Call (PySem.Expr.Name "is_accepted" _) (_ :: _) [] _) _ _ _); refine Z.xe_call (by assumption) (Law.ok_is_accepted T) (by wtm_at "m") (by omega) ?_) | ((with_reducible show Z.XE _ (PySem.Expr.Call (PySem.Expr.Name "rows_of" _) (_ :: _) [] _) _ _ _); refine Z.xe_call (by assumption) (Law.ok_rows_of T) (by wtm_at "m") (by omega) ?_) | fail)
def sp_toH (K : PySem.W.Frag) (CN CM CP : Addr) : Sp := fun vs H Q _ => ∃ (a ra L dx mx dB dH : Addr) (t n f : Int) (bs : List (List Int)) (hs : List (List Int × Int)) (row : List Int) (ps : List Addr) (xs : List P5), vs = [.ref a, .ref ra, .ref L] ∧ NbAt CN CM H a dx mx dB dH t n f bs hs ∧ H ra = some (.tup (row.map V.int)) ∧ H L = some (.lst (ps.map V.ref)) ∧ PpsP K CP H ps xs ∧ ps.length ≤ 100 ∧ 0 < n ∧ row.length ≤ 100 ∧
  ∀ (R : Addr) (us : List V) H', Kp [] H H' → H R = none → H' R = some (.lst us) → PrsAt K H' us (prs (okH5 n f hs row xs) (hrH5 hs xs) (vlP5 ps) ps.length) → Q (.ref R) H'
theorem ok__to_heads (T : Txt P w K mg base) : DefOk P w K mg base "_to_heads" ["notebook", "row", "papers"] 12 (sp_toH K T.C_Notebook T.C_Mixing T.C_Paper) := by
  refine DefOk.by T.d__to_heads sc__to_heads oc__to_heads (fun vs H Q E h => ?_) (fun X e1 e2 e3 e4 e5 C H vs Q E h => ?_)
  · obtain ⟨a, ra, L, dx, mx, dB, dH, t, n, f, bs, hs, row, ps, xs, rfl, _⟩ := h; rfl
  · obtain ⟨a, ra, L, dx, mx, dB, dH, t, n, f, bs, hs, row, ps, xs, rfl, nb, hra, hL, hP, lp, hn, lr, q⟩ := h
    wtm_at "go"
    wtm_at "w"
    intro R H1 k1 nR hR
    have hid1 : Kp [] H H1 ∧ True := ⟨k1, trivial⟩
    clear k1
    wtm_at "w"
    refine xs_forL C ?_
    wtm_at "w"
    refine ⟨L, _, rfl, Z.SqL.of' (hid1.1.at0 hL), fun i σ H' => ∃ (v4 v5 : Option V) (us : List V), σ = [some (.ref a), some (.ref ra), some (.ref L), some (.ref R), v4, v5] ∧ Kp [] H H' ∧ H' R = some (.lst us) ∧ PrsAt X.K H' us (prs (okH5 n f hs row xs) (hrH5 hs xs) (vlP5 ps) i), ⟨_, _, [], rfl, hid1.1, hR, trivial⟩, ?_, ?_, ?_⟩
    · rintro i σ' H' _ ⟨v4, v5, us, rfl, k, _⟩
      exact Z.SqL.of' (k.at0 hL)
    · rintro i y σ' H2 hy ⟨v4, v5, us, rfl, k2, h2, d2⟩
      obtain ⟨p, x, rfl, hpi, hxi, hp, ho⟩ := (hP.kp k2).at hy
      have gx := getD_of (d := d5) hxi
      have gp := getD_of (d := 0) hpi
      have li := (List.getElem?_eq_some_iff.mp hpi).1
      have hv : vlP5 ps i = .ref p := by unfold vlP5; rw [gp]
      have lus := d2.len
      have lpr := prs_le (okH5 n f hs row xs) (hrH5 hs xs) (vlP5 ps) i
      have nb2 := car k2 nb
      have hra2 := k2.t _ _ hra
      have hid2 : Kp [] H H2 ∧ True := ⟨k2, trivial⟩
      have ro := ho.ro
      have ls := ho.ls
      have hG : okH5 n f hs row xs i = ((lkR hs (ls5 x)).isSome && (decide (x.2.1 = row) && ok5 n f x)) := by unfold okH5; rw [gx]
      have hh : hrH5 hs xs i = (lkR hs (ls5 x)).getD 0 := by unfold hrH5; rw [gx]
      have fin : okH5 n f hs row xs i = false → ∀ v5 H', Kp [] H2 H' → ∃ (v4 v5' : Option V) (us : List V), [some (.ref a), some (.ref ra), some (.ref L), some (.ref R), some (.ref p), v5] = [some (.ref a), some (.ref ra), some (.ref L), some (.ref R), v4, v5'] ∧ Kp [] H H' ∧ H' R = some (.lst us) ∧ PrsAt X.K H' us (prs (okH5 n f hs row xs) (hrH5 hs xs) (vlP5 ps) (i + 1)) := fun e v5 H' k => ⟨_, _, us, rfl, hid2.1.tr0 k, k.at0 h2, by rw [prs_neg e]; exact d2.kp k⟩
      obtain ⟨dx', st', vs', q1, q2, q3, q4⟩ := id hp
      clear k2 hP nb hra hid1 hR
      refine xg_name C (by wtm_at "m") (by wtm_at "m") ?_
      refine ⟨_, by wtm_at "u", ?_⟩
      refine xb_cons ?_
      refine xs_set C ?_ (hx := by wtm_at "m") (hl := by wtm_at "m")
      refine xe_meth C (ok_seen T) T.cl_Notebook (by omega) ?_
      wtm_at "w"
      refine ⟨a, dx, _, rfl, nb2.ha, nb_no mx dB dH t (by decide +kernel) (by decide +kernel) (by decide +kernel) (by decide +kernel), ?_⟩
      wtm_at "w"
      refine ⟨p, x.1, x.2.1, x.2.2, rfl, hp, by omega, fun RL H3 k3 n3 h3 => ?_⟩
      wtm_at "w"
      refine vx_lst (Z.SqL.of' h3) (at_getLast (lastA_at x.2.2 x.1)) ?_
      have lt := lastA_tup (q3.kp k3) (k3.t _ _ q4)
      have hra3 := k3.t _ _ hra2
      have hp3 := hp.kp k3
      have nb3 := car k3 nb2
      have q13 := k3.at0 q1
      have q43 := k3.t _ _ q4
      have k23 := k3
      clear k3 hp q1 q2 q3 q4 h3 nb2
      wtm_at "w"
      refine ⟨a, _, dx, mx, dB, dH, t, n, f, bs, hs, _, rfl, nb3, lt, ?_⟩
      rw [show lastR x.2.1 (x.2.2.map (·.2)) = ls5 x from rfl]
      refine ⟨_, by wtm_at "u", ?_⟩
      cases c1 : lkR hs (ls5 x) with
      | none =>
        rw [c1] at hG
        wtm_at "w"
        refine ite_nd (fun e => absurd rfl e) (fun _ => ?_)
        repeat refine xb_nil ?_
        exact fin hG _ _ k23
      | some hr =>
        rw [c1] at hG hh
        show XB _ _ _ _ [some (.ref a), some (.ref ra), some (.ref L), some (.ref R), some (.ref p), some (.int hr)] _
        wtm_at "w"
        refine ite_nd (fun _ => ?_) (fun e => nomatch e)
        wtm_at "w"
        refine xe_fld ?_
        wtm_at "w"
        refine ⟨p, _, dx', _, _, rfl, q13, T.cl_Paper, T.na_Paper_first, pap_f _ _, ?_⟩
        wtm_at "w"
        refine vo_eqT C (Z.SqT.of' q43) (Z.SqT.of' hra3) ?_
        by_cases c2 : x.2.1 = row
        · rw [decide_eq_true c2] at hG ⊢
          wtm_at "w"
          refine xe_fld ?_
          wtm_at "w"
          refine ⟨a, _, dx, _, _, rfl, nb3.ha, T.cl_Notebook, T.na_Notebook_mixing, nb_m mx dB dH t, ?_⟩
          wtm_at "w"
          refine ⟨mx, p, n, f, x.2.1, ss5 x, rfl, nb3.hx, hn, hp3.at, ro, fun H4 k4 => ?_⟩
          have k24 := k23.tr0 k4
          clear k4 hp3 nb3 q13 k23 lt hra3
          by_cases c3 : papFault n f x.2.1 (ss5 x) = none
          · rw [show ok5 n f x = true from decide_eq_true c3] at hG
            rw [decide_eq_true c3]
            wtm_at "w"
            intro TT H5 k5 h5 _
            have k25 := k24.tr0 k5
            refine ⟨k25.at0 h2, szl (by omega), fun H6 k6 h6 => ?_⟩
            repeat refine xb_nil ?_
            refine ⟨_, _, _, rfl, (hid2.1.tr0 k25).tr1 k6 (.inr nR), h6, ?_⟩
            rw [prs_pos hG, hh, hv]
            exact PrsAt.snoc (k6.tup h5) (PrsAt.kp k6 (PrsAt.kp k25 d2))
          · rw [show ok5 n f x = false from decide_eq_false c3] at hG
            rw [decide_eq_false c3]
            wtm_at "w"
            repeat refine xb_nil ?_
            exact fin hG _ _ k24
        · rw [decide_eq_false c2] at hG ⊢
          wtm_at "w"
          repeat refine xb_nil ?_
          exact fin hG _ _ k23
    · rintro σ' H2 ⟨v4, v5, us, rfl, k2, h2, d2⟩
      rw [List.length_map] at d2
      wtm_at "w"
      exact q R us H2 k2 nR h2 d2
end
/-! winOf -/
section
local macro_rules | `(tactic| wtm_at "d") => `(tactic| first | ((with_reducible show Z.XE _ (PySem.Expr.Call (PySem.Expr.Name "max" _) (_ :: _) [] _) _ _ _); refine Z.xe_callB (id := "max") (by assumption) (by wtm_at "m") T.b_max (by decide +kernel) ?_) | ((with_reducible show Z.XE _ (PySem.Expr.Call (PySem.Expr.Name "min" _) (_ :: _) [] _) _ _ _); refine Z.xe_callB (id := "min") (by assumption) (by wtm_at "m") T.b_min (by decide +kernel) ?_) | fail)
def sp_winOf (K : PySem.W.Frag) : Sp := fun vs H Q _ => ∃ (A B : Addr) (us ws : List V) (es gs : List (Int × V)), vs = [.ref A, .ref B] ∧ H A = some (.lst us) ∧ H B = some (.lst ws) ∧ PrsAt K H us es ∧ PrsAt K H ws gs ∧ es.length ≤ 1000 ∧ gs.length ≤ 1000 ∧ ∀ R H', Kp [] H H' → SqT K H' R [oV (mxO (es.map (·.1))), oV (mnO (gs.map (·.1)))] → Q (.ref R) H'
theorem ok__window_of (T : Txt P w K mg base) : DefOk P w K mg base "_window_of" ["earlier", "later"] 1 (sp_winOf K) := by
  refine DefOk.by T.d__window_of sc__window_of oc__window_of (fun vs H Q E h => ?_) (fun X e1 e2 e3 e4 e5 C H vs Q E h => ?_)
  · obtain ⟨A, B, us, ws, es, gs, rfl, _⟩ := h; rfl
  · obtain ⟨A, B, us, ws, es, gs, rfl, hA, hB, dA, dB, le, lg, q⟩ := h
    have lA := dA.len
    have lB := dB.len
    wtm_at "go"
    refine xs_set C (XE.mono (Q := fun v H' => v = oV (mxO (es.map (·.1))) ∧ Kp [] H H') ?_ ?_) (hx := by wtm_at "m") (hl := by wtm_at "m")
    · refine xe_maxD C (by wtm_at "m") T.b_max ?_
      refine xe_lc C ?_
      refine xlc_L2 (Vs' := ["hour"]) (G' := []) (nm := "hour") (nm2 := "_") (i := 4) (j := 5) (by assumption) ⟨rfl, rfl, by decide, by decide +kernel, by decide +kernel, rfl, by decide +kernel, by decide +kernel, by decide⟩ ?_
      wtm_at "w"
      refine ⟨A, _, rfl, Z.SqL.of' hA, fun L H1 k1 nL hL => ⟨fun t H' => Kp [] H H' ∧ H' L = some (.lst ((es.map fun e => V.int e.1).take t)), ⟨k1, hL⟩, ?_, ?_, ?_⟩⟩
      · rintro t H' _ ⟨k, _⟩
        exact Z.SqL.of' (k.at0 hA)
      · rintro t y H2 hy ⟨k2, h2⟩
        obtain ⟨e, he, TT, rfl, hT⟩ := (PrsAt.kp k2 dA).at hy
        have hs2 : (es.map fun e => V.int e.1)[t]? = some (.int e.1) := by rw [List.getElem?_map, he]; rfl
        clear k1
        refine ⟨TT, .int e.1, e.2, _, _, rfl, hT, by wtm_at "u", by wtm_at "u", ?_⟩
        intro s0 H0 c' cl fp C'
        wtm_at "w"
        refine ⟨_, h2, szl (by rw [List.length_take, List.length_map]; omega), fun H3 k3 h3 => ⟨k2.tr1 k3 (.inr nL), ?_⟩⟩
        rw [h3, List.take_add_one, hs2]; rfl
      rintro H2 ⟨k2, h2⟩
      rw [lA, List.take_of_length_le (by rw [List.length_map]; exact Nat.le_refl _)] at h2
      have em : (es.map fun e => V.int e.1) = (es.map (·.1)).map V.int := by rw [List.map_map]; rfl
      rw [em] at h2
      refine ⟨L, _, rfl, Z.SqL.of' h2, fun e => ⟨by rw [e]; rfl, k2⟩, fun m m1 m2 => ⟨by rw [mxO_of m1 m2]; rfl, k2⟩⟩
    rintro v H3 ⟨rfl, k3⟩
    refine ⟨_, by wtm_at "u", ?_⟩
    refine xb_cons ?_
    have hB3 := k3.at0 hB
    have dB3 := PrsAt.kp k3 dB
    have hid3 : Kp [] H H3 ∧ True := ⟨k3, trivial⟩
    clear k3 hA hB dA dB
    refine xs_set C (XE.mono (Q := fun v H' => v = oV (mnO (gs.map (·.1))) ∧ Kp [] H3 H') ?_ ?_) (hx := by wtm_at "m") (hl := by wtm_at "m")
    · refine xe_minD C (by wtm_at "m") T.b_min ?_
      refine xe_lc C ?_
      refine xlc_L2 (Vs' := ["hour"]) (G' := []) (nm := "hour") (nm2 := "_") (i := 4) (j := 5) (by assumption) ⟨rfl, rfl, by decide, by decide +kernel, by decide +kernel, rfl, by decide +kernel, by decide +kernel, by decide⟩ ?_
      wtm_at "w"
      refine ⟨B, _, rfl, Z.SqL.of' hB3, fun L H1 k1 nL hL => ⟨fun t H' => Kp [] H3 H' ∧ H' L = some (.lst ((gs.map fun e => V.int e.1).take t)), ⟨k1, hL⟩, ?_, ?_, ?_⟩⟩
      · rintro t H' _ ⟨k, _⟩
        exact Z.SqL.of' (k.at0 hB3)
      · rintro t y H2 hy ⟨k2, h2⟩
        obtain ⟨e, he, TT, rfl, hT⟩ := (PrsAt.kp k2 dB3).at hy
        have hs2 : (gs.map fun e => V.int e.1)[t]? = some (.int e.1) := by rw [List.getElem?_map, he]; rfl
        clear k1
        refine ⟨TT, .int e.1, e.2, _, _, rfl, hT, by wtm_at "u", by wtm_at "u", ?_⟩
        intro s0 H0 c' cl fp C'
        wtm_at "w"
        refine ⟨_, h2, szl (by rw [List.length_take, List.length_map]; omega), fun H3 k3 h3 => ⟨k2.tr1 k3 (.inr nL), ?_⟩⟩
        rw [h3, List.take_add_one, hs2]; rfl
      rintro H2 ⟨k2, h2⟩
      rw [lB, List.take_of_length_le (by rw [List.length_map]; exact Nat.le_refl _)] at h2
      have em : (gs.map fun e => V.int e.1) = (gs.map (·.1)).map V.int := by rw [List.map_map]; rfl
      rw [em] at h2
      refine ⟨L, _, rfl, Z.SqL.of' h2, fun e => ⟨by rw [e]; rfl, k2⟩, fun m m1 m2 => ⟨by rw [mnO_of m1 m2]; rfl, k2⟩⟩
    rintro v H4 ⟨rfl, k4⟩
    refine ⟨_, by wtm_at "u", ?_⟩
    have hid4 : Kp [] H H4 ∧ True := ⟨hid3.1.tr0 k4, trivial⟩
    clear k4
    wtm_at "w"
    intro R H5 k5 h5 _
    exact q R H5 (hid4.1.tr0 k5) h5
end
/-! windowP -/
section
local macro_rules | `(tactic| wtm_at "d") => `(tactic| first | ((with_reducible show Z.XE _ (PySem.Expr.Call (PySem.Expr.Name "_window_of" _) (_ :: _) [] _) _ _ _); refine Z.xe_call (by assumption) (Law.ok__window_of T) (by wtm_at "m") (by omega) ?_) | ((with_reducible show Z.XE _ (PySem.Expr.Call (PySem.Expr.Name "_from_beacons" _) (_ :: _) [] _) _ _ _); refine Z.xe_call (by assumption) (Law.ok__from_beacons T) (by wtm_at "m") (by omega) ?_) | ((with_reducible show Z.XE _ (PySem.Expr.Call (PySem.Expr.Name "_to_heads" _) (_ :: _) [] _) _ _ _); refine Z.xe_call (by assumption) (Law.ok__to_heads T) (by wtm_at "m") (by omega) ?_) | fail)
/-- what a notebook and papers tell of a row -/
def loW (n f : Int) (bs : List (List Int)) (row : List Int) (xs : List P5) : Option Int := mxO ((selG (okB5 n f bs row xs) xs.length).map (hrB5 xs))
def upW (n f : Int) (hs : List (List Int × Int)) (row : List Int) (xs : List P5) : Option Int := mnO ((selG (okH5 n f hs row xs) xs.length).map (hrH5 hs xs))
/-- a notebook, a row, papers -/
structure W55 (K : PySem.W.Frag) (CN CM CP : Addr) (H : Hp) (a ra L dx mx dB dH : Addr) (t n f : Int) (bs : List (List Int)) (hs : List (List Int × Int)) (row : List Int) (ps : List Addr) (xs : List P5) : Prop where
  nb : NbAt CN CM H a dx mx dB dH t n f bs hs
  hra : H ra = some (.tup (row.map V.int))
  hL : H L = some (.lst (ps.map V.ref))
  hP : PpsP K CP H ps xs
  lp : ps.length ≤ 100
  hn : 0 < n
  lr : row.length ≤ 100
  b2 : ∀ r ∈ bs, 2 ≤ r.length
theorem W55.kp {K : PySem.W.Frag} {CN CM CP : Addr} {H H' : Hp} {a ra L dx mx dB dH : Addr} {t n f : Int} {bs : List (List Int)} {hs : List (List Int × Int)} {row : List Int} {ps : List Addr} {xs : List P5} (h : W55 K CN CM CP H a ra L dx mx dB dH t n f bs hs row ps xs) (k : Kp [] H H') : W55 K CN CM CP H' a ra L dx mx dB dH t n f bs hs row ps xs := ⟨car k h.nb, k.t _ _ h.hra, k.at0 h.hL, h.hP.kp k, h.lp, h.hn, h.lr, h.b2⟩
def sp_window (K : PySem.W.Frag) (CN CM CP : Addr) : Sp := fun vs H Q _ => ∃ (a ra L dx mx dB dH : Addr) (t n f : Int) (bs : List (List Int)) (hs : List (List Int × Int)) (row : List Int) (ps : List Addr) (xs : List P5), vs = [.ref a, .ref ra, .ref L] ∧ W55 K CN CM CP H a ra L dx mx dB dH t n f bs hs row ps xs ∧
  ∀ R H', Kp [] H H' → SqT K H' R [oV (loW n f bs row xs), oV (upW n f hs row xs)] → Q (.ref R) H'
theorem ok_window (T : Txt P w K mg base) : DefOk P w K mg base "window" ["notebook", "row", "papers"] 13 (sp_window K T.C_Notebook T.C_Mixing T.C_Paper) := by
  refine DefOk.by T.d_window sc_window oc_window (fun vs H Q E h => ?_) (fun X e1 e2 e3 e4 e5 C H vs Q E h => ?_)
  · obtain ⟨a, ra, L, dx, mx, dB, dH, t, n, f, bs, hs, row, ps, xs, rfl, _⟩ := h; rfl
  · obtain ⟨a, ra, L, dx, mx, dB, dH, t, n, f, bs, hs, row, ps, xs, rfl, S, q⟩ := h
    have lx : ps.length = xs.length := S.hP.1
    have lp := S.lp
    wtm_at "go"
    wtm_at "w"
    refine ⟨a, ra, L, dx, mx, dB, dH, t, n, f, bs, hs, row, ps, xs, rfl, S.nb, S.hra, S.hL, S.hP, S.lp, S.hn, S.lr, S.b2, fun A us H1 k1 nA hA dA => ?_⟩
    have S1 := S.kp k1
    have hid1 : Kp [] H H1 ∧ True := ⟨k1, trivial⟩
    clear k1 S
    wtm_at "w"
    refine ⟨a, ra, L, dx, mx, dB, dH, t, n, f, bs, hs, row, ps, xs, rfl, S1.nb, S1.hra, S1.hL, S1.hP, S1.lp, S1.hn, S1.lr, fun B ws H2 k2 nB hB dB => ?_⟩
    have hA2 := k2.at0 hA
    have dA2 := PrsAt.kp k2 dA
    have hid2 : Kp [] H H2 ∧ True := ⟨hid1.1.tr0 k2, trivial⟩
    clear k2 hA dA S1 hid1
    have l1 := prs_le (okB5 n f bs row xs) (hrB5 xs) (vlP5 ps) ps.length
    have l2 := prs_le (okH5 n f hs row xs) (hrH5 hs xs) (vlP5 ps) ps.length
    wtm_at "w"
    refine ⟨A, B, us, ws, _, _, rfl, hA2, hB, dA2, dB, by omega, by omega, fun R H3 k3 h3 => ?_⟩
    rw [prs_fst, prs_fst, lx] at h3
    exact q R H3 (hid2.1.tr0 k3) h3
def sp_firstOf (K : PySem.W.Frag) : Sp := fun vs H Q _ => ∃ (F : Addr) (h : Int) (us : List V) (es : List (Int × V)) (e : Int × V), vs = [.int h, .ref F] ∧ H F = some (.lst us) ∧ PrsAt K H us es ∧ es.find? (fun e => decide (e.1 = h)) = some e ∧ Q e.2 H
theorem ok__first_of_hour (T : Txt P w K mg base) : DefOk P w K mg base "_first_of_hour" ["hour", "found"] 1 (sp_firstOf K) := by
  refine DefOk.by T.d__first_of_hour sc__first_of_hour oc__first_of_hour (fun vs H Q E h => ?_) (fun X e1 e2 e3 e4 e5 C H vs Q E h => ?_)
  · obtain ⟨F, h, us, es, e, rfl, _⟩ := h; rfl
  · obtain ⟨F, h, us, es, e, rfl, hF, dF, fe, q⟩ := h
    have lF := dF.len
    wtm_at "go"
    refine xs_forL C ?_
    wtm_at "w"
    refine ⟨F, _, rfl, Z.SqL.of' hF, fun i σ H' => ∃ (v2 v3 : Option V), σ = [some (.int h), some (.ref F), v2, v3] ∧ H' = H ∧ (es.take i).find? (fun e => decide (e.1 = h)) = none, ⟨_, _, rfl, rfl, rfl⟩, ?_, ?_, ?_⟩
    · rintro i σ' H' _ ⟨v2, v3, rfl, rfl, _⟩
      exact Z.SqL.of' hF
    · rintro i y σ' H' hy ⟨v2, v3, rfl, rfl, hno⟩
      obtain ⟨x, hx, TT, rfl, hT⟩ := dF.at hy
      refine xg_tup C ⟨TT, _, rfl, hT, rfl, ?_⟩
      wtm_at "w"
      refine ite_d (fun e1 => ?_) (fun e1 => ?_)
      · wtm_at "w"
        have : es.find? (fun e => decide (e.1 = h)) = some x := by
          rw [← List.take_append_drop i es, List.find?_append, hno, drop_at hx]
          simp [e1]
        rw [this] at fe
        rw [Option.some.inj fe]
        exact q
      · repeat refine xb_nil ?_
        refine ⟨_, _, rfl, rfl, ?_⟩
        rw [List.take_add_one, List.find?_append, hno, hx]
        simp [e1]
    · rintro σ' H' ⟨v2, v3, rfl, rfl, hno⟩
      rw [lF, List.take_length, fe] at hno
      cases hno
end
/-! joined -/
section
local macro_rules | `(tactic| wtm_at "d") => `(tactic| first | ((with_reducible show Z.XE _ (PySem.Expr.Call (PySem.Expr.Name "Paper" _) (_ :: _) [] _) _ _ _); refine Z.xe_make (by assumption) (Law.ok_Paper T) (by wtm_at "m") (by omega) ?_) | fail)
def sp_joined (K : PySem.W.Frag) (CP : Addr) : Sp := fun vs H Q _ => ∃ (p1 p2 : Addr) (f1 f2 : List Int) (s1 s2 : List Stp), vs = [.ref p1, .ref p2] ∧ PpAt K CP H p1 f1 s1 ∧ PpAt K CP H p2 f2 s2 ∧ s1.length + s2.length ≤ 10000 ∧ ∀ q H', Kp [] H H' → H q = none → PpAt K CP H' q f1 (s1 ++ s2) → Q (.ref q) H'
theorem ok_joined (T : Txt P w K mg base) : DefOk P w K mg base "joined" ["one", "two"] 3 (sp_joined K T.C_Paper) := by
  refine DefOk.by T.d_joined sc_joined oc_joined (fun vs H Q E h => ?_) (fun X e1 e2 e3 e4 e5 C H vs Q E h => ?_)
  · obtain ⟨p1, p2, f1, f2, s1, s2, rfl, _⟩ := h; rfl
  · obtain ⟨p1, p2, f1, f2, s1, s2, rfl, ⟨dx, fr, st, vs, h1, h2, h3, h4⟩, ⟨dx', fr', st', vs', g1, g2, g3, g4⟩, ls, q⟩ := h
    have lv : vs.length = s1.length := by rw [dpAll_len h3, List.length_map]
    have lv' : vs'.length = s2.length := by rw [dpAll_len g3, List.length_map]
    wtm_at "go"
    wtm_at "w"
    refine xe_fld ?_
    wtm_at "w"
    refine ⟨p1, _, dx, _, _, rfl, h1, T.cl_Paper, T.na_Paper_first, pap_f _ _, ?_⟩
    wtm_at "w"
    refine xe_fld ?_
    wtm_at "w"
    refine ⟨p1, _, dx, _, _, rfl, h1, T.cl_Paper, T.na_Paper_steps, pap_s _ _, ?_⟩
    wtm_at "w"
    refine xe_fld ?_
    wtm_at "w"
    refine ⟨p2, _, dx', _, _, rfl, g1, T.cl_Paper, T.na_Paper_steps, pap_s _ _, ?_⟩
    refine vo_catL h2 g2 (sz_ (by omega)) (fun l H1 k1 nl hl => ?_)
    wtm_at "w"
    intro z dz nz nd ne
    refine ⟨z, dz, l, .ref fr, vs ++ vs', rfl, upd_same, Z.SqL.of' ((Kp.made nz nd ne).at0 hl), fun st2 H2 k2 hz nst hst => ⟨rfl, ?_⟩⟩
    have km : Kp [] H1 H2 := (Kp.made nz nd ne).tr1 k2 (.inr nz)
    refine q z H2 (k1.tr0 km) (k1.n _ nz) ⟨dz, fr, st2, vs ++ vs', hz, hst, ?_, km.tup (k1.tup h4)⟩
    rw [List.map_append]
    exact dpAll_app (dpAll_kp (k1.tr0 km) h3) (dpAll_kp (k1.tr0 km) g3)
end
/-! foretold -/
section
local macro_rules | `(tactic| wtm_at "d") => `(tactic| first | ((with_reducible show Z.XE _ (PySem.Expr.Call (PySem.Expr.Name "joined" _) (_ :: _) [] _) _ _ _); refine Z.xe_call (by assumption) (Law.ok_joined T) (by wtm_at "m") (by omega) ?_) | ((with_reducible show Z.XE _ (PySem.Expr.Call (PySem.Expr.Name "_window_of" _) (_ :: _) [] _) _ _ _); refine Z.xe_call (by assumption) (Law.ok__window_of T) (by wtm_at "m") (by omega) ?_) | ((with_reducible show Z.XE _ (PySem.Expr.Call (PySem.Expr.Name "_from_beacons" _) (_ :: _) [] _) _ _ _); refine Z.xe_call (by assumption) (Law.ok__from_beacons T) (by wtm_at "m") (by omega) ?_) | ((with_reducible show Z.XE _ (PySem.Expr.Call (PySem.Expr.Name "_to_heads" _) (_ :: _) [] _) _ _ _); refine Z.xe_call (by assumption) (Law.ok__to_heads T) (by wtm_at "m") (by omega) ?_) | ((with_reducible show Z.XE _ (PySem.Expr.Call (PySem.Expr.Name "_first_of_hour" _) (_ :: _) [] _) _ _ _); refine Z.xe_call (by assumption) (Law.ok__first_of_hour T) (by wtm_at "m") (by omega) ?_) | fail)
/-- the first paper that is chosen for an hour -/
def frK (G : Nat → Bool) (hr : Nat → Int) (t : Nat) (m : Int) : Option Nat := (selG G t).find? (fun k => decide (hr k = m))
theorem frK_of {G : Nat → Bool} {hr : Nat → Int} {t : Nat} {m : Int} (h : m ∈ (selG G t).map hr) : ∃ k, frK G hr t m = some k ∧ k < t ∧ G k = true ∧ hr k = m := by
  obtain ⟨k, h1, h2⟩ := List.mem_map.mp h
  cases e : frK G hr t m with
  | none =>
    have := List.find?_eq_none.mp e k h1
    simp [h2] at this
  | some j =>
    have h3 := List.mem_of_find?_eq_some e
    have h4 := List.find?_some e
    obtain ⟨a, b⟩ := selG_mem h3
    exact ⟨j, rfl, a, b, of_decide_eq_true h4⟩
theorem prs_find {G : Nat → Bool} {hr : Nat → Int} {vl : Nat → V} {t : Nat} {m : Int} {k : Nat} (h : frK G hr t m = some k) : (prs G hr vl t).find? (fun e => decide (e.1 = m)) = some (hr k, vl k) := by
  unfold prs
  rw [List.find?_map]
  show ((selG G t).find? (fun k => decide (hr k = m))).map _ = _
  rw [show (selG G t).find? (fun k => decide (hr k = m)) = some k from h]; rfl
def sp_foretold (K : PySem.W.Frag) (CN CM CP : Addr) : Sp := fun vs H Q _ => ∃ (a ra L dx mx dB dH : Addr) (t n f : Int) (bs : List (List Int)) (hs : List (List Int × Int)) (row : List Int) (ps : List Addr) (xs : List P5), vs = [.ref a, .ref ra, .ref L] ∧ W55 K CN CM CP H a ra L dx mx dB dH t n f bs hs row ps xs ∧
  (∀ H', Kp [] H H' → (∀ lo up, loW n f bs row xs = some lo → upW n f hs row xs = some up → lo ≤ up) → Q .non H') ∧
  ∀ lo up i j q H', Kp [] H H' → loW n f bs row xs = some lo → upW n f hs row xs = some up → up < lo → frK (okB5 n f bs row xs) (hrB5 xs) xs.length lo = some i → frK (okH5 n f hs row xs) (hrH5 hs xs) xs.length up = some j → i < xs.length → j < xs.length → okB5 n f bs row xs i = true → okH5 n f hs row xs j = true →
    PpAt K CP H' q (xs.getD i d5).2.1 (ss5 (xs.getD i d5) ++ ss5 (xs.getD j d5)) → Q (.ref q) H'
theorem ok_foretold (T : Txt P w K mg base) : DefOk P w K mg base "foretold" ["notebook", "row", "papers"] 13 (sp_foretold K T.C_Notebook T.C_Mixing T.C_Paper) := by
  refine DefOk.by T.d_foretold sc_foretold oc_foretold (fun vs H Q E h => ?_) (fun X e1 e2 e3 e4 e5 C H vs Q E h => ?_)
  · obtain ⟨a, ra, L, dx, mx, dB, dH, t, n, f, bs, hs, row, ps, xs, rfl, _⟩ := h; rfl
  · obtain ⟨a, ra, L, dx, mx, dB, dH, t, n, f, bs, hs, row, ps, xs, rfl, S, qN, qR⟩ := h
    have lx : ps.length = xs.length := S.hP.1
    have lp := S.lp
    wtm_at "go"
    wtm_at "w"
    refine ⟨a, ra, L, dx, mx, dB, dH, t, n, f, bs, hs, row, ps, xs, rfl, S.nb, S.hra, S.hL, S.hP, S.lp, S.hn, S.lr, S.b2, fun A us H1 k1 nA hA dA => ?_⟩
    have S1 := S.kp k1
    have hid1 : Kp [] H H1 ∧ True := ⟨k1, trivial⟩
    clear k1 S
    wtm_at "w"
    refine ⟨a, ra, L, dx, mx, dB, dH, t, n, f, bs, hs, row, ps, xs, rfl, S1.nb, S1.hra, S1.hL, S1.hP, S1.lp, S1.hn, S1.lr, fun B ws H2 k2 nB hB dB => ?_⟩
    have hA2 := k2.at0 hA
    have dA2 := PrsAt.kp k2 dA
    have P2 := S1.hP.kp k2
    have hid2 : Kp [] H H2 ∧ True := ⟨hid1.1.tr0 k2, trivial⟩
    clear k2 hA dA S1 hid1
    have l1 := prs_le (okB5 n f bs row xs) (hrB5 xs) (vlP5 ps) ps.length
    have l2 := prs_le (okH5 n f hs row xs) (hrH5 hs xs) (vlP5 ps) ps.length
    wtm_at "w"
    refine ⟨A, B, us, ws, _, _, rfl, hA2, hB, dA2, dB, by omega, by omega, fun R H3 k3 h3 => ?_⟩
    rw [prs_fst, prs_fst, lx] at h3
    have hA3 := k3.at0 hA2
    have hB3 := k3.at0 hB
    have dA3 := PrsAt.kp k3 dA2
    have dB3 := PrsAt.kp k3 dB
    have P3 := P2.kp k3
    have hid3 : Kp [] H H3 ∧ True := ⟨hid2.1.tr0 k3, trivial⟩
    clear k3 hA2 hB dA2 dB P2 hid2
    rw [lx] at dA3 dB3
    refine xg_tup C ⟨R, _, rfl, h3, rfl, ?_⟩
    wtm_at "w"
    have elo : mxO (List.map (hrB5 xs) (selG (okB5 n f bs row xs) xs.length)) = loW n f bs row xs := rfl
    have eup : mnO (List.map (hrH5 hs xs) (selG (okH5 n f hs row xs) xs.length)) = upW n f hs row xs := rfl
    rw [elo, eup]
    cases clo : loW n f bs row xs with
    | none =>
      refine ite_d (fun _ => ?_) (fun e => absurd rfl e)
      refine L2.iteT ?_
      wtm_at "w"
      exact qN H3 hid3.1 (fun lo up e _ => by rw [clo] at e; cases e)
    | some lo =>
      refine ite_d (fun e => nomatch e) (fun _ => ?_)
      wtm_at "w"
      cases cup : upW n f hs row xs with
      | none =>
        refine ite_d (fun _ => ?_) (fun e => absurd rfl e)
        refine L2.iteT ?_
        wtm_at "w"
        exact qN H3 hid3.1 (fun lo up _ e => by rw [cup] at e; cases e)
      | some up =>
        refine ite_d (fun e => nomatch e) (fun _ => ?_)
        rw [show oV (some lo) = V.int lo from rfl, show oV (some up) = V.int up from rfl]
        wtm_at "w"
        refine ite_d (fun hle => ?_) (fun hle => ?_)
        · wtm_at "w"
          exact qN H3 hid3.1 (fun lo' up' e e' => by rw [clo] at e; rw [cup] at e'; rw [← Option.some.inj e, ← Option.some.inj e']; exact hle)
        · obtain ⟨i, fi, li, gi, ei⟩ := frK_of (mxO_in (show mxO ((selG (okB5 n f bs row xs) xs.length).map (hrB5 xs)) = some lo from clo))
          obtain ⟨j, fj, lj, gj, ej⟩ := frK_of (mnO_in (show mnO ((selG (okH5 n f hs row xs) xs.length).map (hrH5 hs xs)) = some up from cup))
          have pi_ := P3.2 i (ps.getD i 0) (xs.getD i d5) (by rw [List.getD_eq_getElem?_getD, List.getElem?_eq_getElem (by omega)]; rfl) (by rw [List.getD_eq_getElem?_getD, List.getElem?_eq_getElem li]; rfl)
          have pj := P3.2 j (ps.getD j 0) (xs.getD j d5) (by rw [List.getD_eq_getElem?_getD, List.getElem?_eq_getElem (by omega)]; rfl) (by rw [List.getD_eq_getElem?_getD, List.getElem?_eq_getElem lj]; rfl)
          wtm_at "w"
          refine ⟨A, lo, us, _, _, rfl, hA3, dA3, prs_find fi, ?_⟩
          wtm_at "w"
          refine ⟨B, up, ws, _, _, rfl, hB3, dB3, prs_find fj, ?_⟩
          wtm_at "w"
          refine ⟨ps.getD i 0, ps.getD j 0, _, _, _, _, rfl, pi_.1.at, pj.1.at, ?_, fun q' H4 k4 _ hq => ?_⟩
          · have := pi_.2.ls
            have := pj.2.ls
            rw [List.length_map, List.length_map]; omega
          · exact qR lo up i j q' H4 (hid3.1.tr0 k4) clo cup (by omega) fi fj li lj gi gj hq
end
/-! shP -/
section
local macro_rules | `(tactic| wtm_at "d") => `(tactic| first | ((with_reducible show Z.XE _ (PySem.Expr.Call (PySem.Expr.Name "len" _) (_ :: _) [] _) _ _ _); refine Z.xe_callB (id := "len") (by assumption) (by wtm_at "m") T.b_len (by decide +kernel) ?_) | ((with_reducible show Z.XE _ (PySem.Expr.Call (PySem.Expr.Name "_law_draw" _) (_ :: _) [] _) _ _ _); refine Z.xe_call (by assumption) (Law.ok__law_draw T) (by wtm_at "m") (by omega) ?_) | ((with_reducible show Z.XE _ (PySem.Expr.Call (PySem.Expr.Name "_law_walk" _) (_ :: _) [] _) _ _ _); refine Z.xe_call (by assumption) (Law.ok__law_walk T) (by wtm_at "m") (by omega) ?_) | fail)
/-! papers as lists of a row and a list of steps, where their rows lie -/
section
variable {K : PySem.W.Frag} {O : Addr} {H H' : Hp}
def ShO (K : PySem.W.Frag) (O : Addr) (H : Hp) (v : V) (x : P5) : Prop := ∃ (sa st : Addr) (vs : List V), v = .ref sa ∧ sa ≠ O ∧ st ≠ O ∧ H sa = some (.lst [.ref x.1, .ref st]) ∧ H st = some (.lst vs) ∧ StsP K H vs x.2.2 ∧ H x.1 = some (.tup (x.2.1.map V.int))
def ShsO (K : PySem.W.Frag) (O : Addr) (H : Hp) : List V → List P5 → Prop
  | [], [] => True
  | u :: us, x :: xs => (ShO K O H u x ∧ P5ok x) ∧ ShsO K O H us xs
  | _, _ => False
theorem ShO.safe {b r : Addr} {A : List Addr} {v : V} {x : P5} (h : ShO K O H v x) (bx : Box H b r) (k : Kp A H H') (hA : ∀ l ∈ A, l = b ∨ l = O) : ShO K O H' v x := by
  obtain ⟨sa, st, vs, e, n1, n2, h1, h2, h3, h4⟩ := h
  obtain ⟨as, e2⟩ := h3.refs
  refine ⟨sa, st, vs, e, n1, n2, k.at (fun m => ?_) h1, k.at (fun m => ?_) h2, h3.kp k, k.t _ _ h4⟩
  · rcases hA _ m with z | z
    · exact bx.neRefs (as := [x.1, st]) h1 z
    · exact n1 z
  · rcases hA _ m with z | z
    · subst e2; exact bx.neRefs h2 z
    · exact n2 z
theorem ShsO.safe {b r : Addr} {A : List Addr} (bx : Box H b r) (k : Kp A H H') (hA : ∀ l ∈ A, l = b ∨ l = O) : ∀ {us : List V} {xs : List P5}, ShsO K O H us xs → ShsO K O H' us xs
  | [], [], _ => trivial
  | _ :: _, _ :: _, h => ⟨⟨h.1.1.safe bx k hA, h.1.2⟩, ShsO.safe bx k hA h.2⟩
theorem ShsO.kp (k : Kp [] H H') : ∀ {us : List V} {xs : List P5}, ShsO K O H us xs → ShsO K O H' us xs
  | [], [], _ => trivial
  | _ :: _, _ :: _, ⟨⟨⟨sa, st, vs, e, n1, n2, h1, h2, h3, h4⟩, o⟩, h⟩ => ⟨⟨⟨sa, st, vs, e, n1, n2, k.at0 h1, k.at0 h2, h3.kp k, k.t _ _ h4⟩, o⟩, ShsO.kp k h⟩
theorem ShsO.len : ∀ {us : List V} {xs : List P5}, ShsO K O H us xs → us.length = xs.length
  | [], [], _ => rfl
  | _ :: _, _ :: _, h => by rw [List.length_cons, List.length_cons, h.2.len]
theorem ShsO.snoc {v : V} {x : P5} (g : ShO K O H v x) (o : P5ok x) : ∀ {us : List V} {xs : List P5}, ShsO K O H us xs → ShsO K O H (us ++ [v]) (xs ++ [x])
  | [], [], _ => ⟨⟨g, o⟩, trivial⟩
  | _ :: _, _ :: _, h => ⟨h.1, h.2.snoc g o⟩
theorem ShsO.at : ∀ {us : List V} {xs : List P5} {i : Nat} {v : V}, ShsO K O H us xs → us[i]? = some v → ∃ x, xs[i]? = some x ∧ ShO K O H v x ∧ P5ok x
  | [], [], _, _, _, e => by simp at e
  | v :: _, x :: _, 0, u, h, e => by
    have : v = u := by simpa using e
    subst this
    exact ⟨x, rfl, h.1⟩
  | _ :: _, _ :: _, i + 1, u, h, e => by
    obtain ⟨y, h1, h2⟩ := h.2.at (i := i) (by simpa using e)
    exact ⟨y, by simpa using h1, h2⟩
end
def sp_papersE (K : PySem.W.Frag) : Sp := fun vs H Q _ => ∃ (b r m M wa : Addr) (n f : Int) (ps : List Addr) (ts : List (List Int × List Int)) (want : List Int), vs = [.ref b, .ref m, .ref M, .ref wa] ∧ Box H b r ∧ H m = some (.lst ([n, f].map V.int)) ∧ 0 < n ∧ H M = some (.lst (ps.map V.ref)) ∧ ThsAt K H n f ps ts ∧ 0 < ps.length ∧ ps.length ≤ 60 ∧ H wa = some (.tup (want.map V.int)) ∧ isThing want = true ∧ want.length ≤ 100 ∧
  ∀ (O : Addr) (us : List V) (xs : List P5) H', Kp [b] H H' → Box H' b r → H O = none → H' O = some (.lst us) → ShsO K O H' us xs → us.length = 14 → Q (.ref O) H'
theorem ok__law_papers (T : Txt P w K mg base) : DefOk P w K mg base "_law_papers" ["box", "mix", "things", "wanted"] 16 (sp_papersE K) := by
  refine DefOk.by T.d__law_papers sc__law_papers oc__law_papers (fun vs H Q E h => ?_) (fun X e1 e2 e3 e4 e5 C H vs Q E h => ?_)
  · obtain ⟨b, r, m, M, wa, n, f, ps, ts, want, rfl, _⟩ := h; rfl
  · obtain ⟨b, r, m, M, wa, n, f, ps, ts, want, rfl, bx, hm, hn, hM, hT, p0, lp, hwa, tw, lw, q⟩ := h
    wtm_at "go"
    wtm_at "w"
    intro O H1 k1 nO hO
    have nOb := bx.nl nO
    have b1 := bx.kp k1
    have hid1 : Kp [] H H1 ∧ True := ⟨k1, trivial⟩
    clear k1
    have rest : ∀ {H' : Hp}, Kp [b] H H' → H' m = some (.lst ([n, f].map V.int)) ∧ H' M = some (.lst (ps.map V.ref)) ∧ ThsAt X.K H' n f ps ts ∧ H' wa = some (.tup (want.map V.int)) := fun {H'} k => ⟨k.at1 (bx.neInts hm) hm, k.at1 (bx.neRefs hM) hM, hT.draw bx k, k.t _ _ hwa⟩
    wtm_at "w"
    refine xs_forR1 C (by wtm_at "m") T.b_range ?_
    wtm_at "w"
    refine ⟨14, rfl, by decide, by decide, fun i σ H' => ∃ (v5 v6 v7 : Option V) (us : List V) (xs : List P5), σ = [some (.ref b), some (.ref m), some (.ref M), some (.ref wa), some (.ref O), v5, v6, v7] ∧ Kp [b] H H' ∧ Box H' b r ∧ H' O = some (.lst us) ∧ ShsO X.K O H' us xs ∧ us.length = i, ⟨_, _, _, [], [], rfl, hid1.1.wk (fun l m => nomatch m), b1, hO, trivial, rfl⟩, ?_, ?_⟩
    · rintro i σ' H2 hi ⟨v5, v6, v7, us, xs, rfl, k2, b2, hO2, d2, lu⟩
      have hi' : i < 14 := hi
      obtain ⟨m2, M2, T2, wa2⟩ := rest k2
      have hid2 : Kp [b] H H2 ∧ True := ⟨k2, trivial⟩
      clear k2 b1 hO hid1
      refine xg_name C (by wtm_at "m") (by wtm_at "m") ?_
      refine ⟨_, by wtm_at "u", ?_⟩
      refine xb_cons ?_
      refine xs_set C (XE.mono (Q := fun v H' => ∃ (fa : Addr) (first : List Int), v = .ref fa ∧ Kp [b] H2 H' ∧ Box H' b r ∧ H' fa = some (.tup (first.map V.int)) ∧ isThing first = true ∧ first.length ≤ 100) ?_ ?_) (hx := by wtm_at "m") (hl := by wtm_at "m")
      · wtm_at "w"
        refine ⟨b, r, _, rfl, b2, by rw [List.length_map]; omega, fun v H3 v0 v1 k3 b3 => ?_⟩
        rw [List.length_map] at v1
        obtain ⟨j, rfl⟩ := Int.eq_ofNat_of_zero_le v0
        have hj : j < ps.length := by omega
        have hy : (ps.map V.ref)[j]? = some (.ref ps[j]) := by rw [List.getElem?_map, List.getElem?_eq_getElem hj]; rfl
        have T3 := T2.draw b2 k3
        have M3 := k3.at1 (b2.neRefs M2) M2
        have kk := k3
        clear k3
        obtain ⟨p, tt, e1, hp, ht, a', e', g1, g2, g3, g4⟩ := T3.at hy
        rw [e1] at hy
        refine vx_lst (Z.SqL.of' M3) (at_nat hy) ?_
        wtm_at "w"
        exact ⟨_, _, rfl, kk, b3, g2, g4.thing, g4.len⟩
      rintro v H3 ⟨fa0, first0, rfl, k3, b3, hf0, ft0, fl0⟩
      have hO3 := k3.at1 nOb.1.symm hO2
      have d3 := d2.safe b2 k3 (fun l m => .inl (List.mem_singleton.mp m))
      have hid3 : Kp [b] H H3 ∧ True := ⟨hid2.1.tr k3 (fun l m => .inl m), trivial⟩
      clear k3 b2 hO2 d2 hid2 m2 M2 T2 wa2
      obtain ⟨m3, M3, T3, wa3⟩ := rest hid3.1
      refine ⟨_, by wtm_at "u", ?_⟩
      refine xb_cons (XS.imp (nx := fun σ H' => ∃ (fa : Addr) (first : List Int), σ = [some (.ref b), some (.ref m), some (.ref M), some (.ref wa), some (.ref O), some (.int i), some (.ref fa), v7] ∧ H' = H3 ∧ H3 fa = some (.tup (first.map V.int)) ∧ isThing first = true ∧ first.length ≤ 100) ?_ ?_)
      · wtm_at "w"
        refine ite_d (fun _ => ?_) (fun _ => ?_)
        · wtm_at "w"
          exact ⟨_, _, rfl, rfl, wa3, tw, lw⟩
        · repeat refine xb_nil ?_
          exact ⟨_, _, rfl, rfl, hf0, ft0, fl0⟩
      rintro σ' H' ⟨fa, first, rfl, rfl, hfa, fth, fl⟩
      clear hf0 ft0 fl0
      refine xb_cons ?_
      wtm_at "w"
      refine ⟨b, r, 5, rfl, b3, by decide, fun c H4 c0 c1 k4 b4 => ?_⟩
      obtain ⟨c, rfl⟩ := Int.eq_ofNat_of_zero_le c0
      have hO4 := k4.at1 nOb.1.symm hO3
      have d4 := d3.safe b3 k4 (fun l m => .inl (List.mem_singleton.mp m))
      have hfa4 := k4.t _ _ hfa
      have hid4 : Kp [b] H H4 ∧ True := ⟨hid3.1.tr k4 (fun l m => .inl m), trivial⟩
      clear k4 b3 hO3 d3 hid3 m3 M3 T3 wa3 hfa
      obtain ⟨m4, M4, T4, wa4⟩ := rest hid4.1
      wtm_at "w"
      refine ⟨b, r, m, M, fa, n, f, ps, ts, first, c, rfl, b4, m4, hn, M4, T4, lp, hfa4, fth, fl, by omega, fun L us5 xs5 H5 k5 b5 nL hL dL _ lx gx => ?_⟩
      have nLO : L ≠ O := (ne_of_none hO4 nL).symm
      have hO5 := k5.at1 nOb.1.symm hO4
      have d5' := d4.safe b4 k5 (fun l m => .inl (List.mem_singleton.mp m))
      have hfa5 := k5.t _ _ hfa4
      have hid5 : Kp [b] H H5 ∧ True := ⟨hid4.1.tr k5 (fun l m => .inl m), trivial⟩
      have nLb : L ≠ b := (b4.nl nL).1.symm
      clear k5 b4 hO4 d4 hid4 m4 M4 T4 wa4 hfa4
      refine ⟨_, by wtm_at "u", ?_⟩
      refine xb_cons (XS.imp (nx := fun σ H' => ∃ (L : Addr) (us5 : List V) (xs5 : List (Addr × Stp)), σ = [some (.ref b), some (.ref m), some (.ref M), some (.ref wa), some (.ref O), some (.int i), some (.ref fa), some (.ref L)] ∧ Kp [b] H H' ∧ Box H' b r ∧ H' O = some (.lst us) ∧ ShsO X.K O H' us xs ∧ H' fa = some (.tup (first.map V.int)) ∧ L ≠ O ∧ H' L = some (.lst us5) ∧ StsP X.K H' us5 xs5 ∧ xs5.length ≤ 20 ∧ (∀ x ∈ xs5, PlOk x.2.2 ∧ RowOk x.2.1 ∧ x.2.1.length ≤ 100 ∧ isThing x.2.1 = true)) ?_ ?_)
      · wtm_at "w"
        refine ⟨b, r, 9, rfl, b5, by decide, fun d H6 _ _ k6 b6 => ?_⟩
        have hO6 := k6.at1 nOb.1.symm hO5
        have d6 := d5'.safe b5 k6 (fun l m => .inl (List.mem_singleton.mp m))
        have hfa6 := k6.t _ _ hfa5
        have hL6 := k6.at1 nLb hL
        have dL6 := dL.kp k6
        have hid6 : Kp [b] H H6 ∧ True := ⟨hid5.1.tr k6 (fun l m => .inl m), trivial⟩
        clear k6 b5 hO5 d5' hid5 hfa5 hL dL
        have nb : ∃ (L' : Addr) (us5' : List V) (xs5' : List (Addr × Stp)), [some (V.ref b), some (.ref m), some (.ref M), some (.ref wa), some (.ref O), some (.int i), some (.ref fa), some (.ref L)] = [some (.ref b), some (.ref m), some (.ref M), some (.ref wa), some (.ref O), some (.int i), some (.ref fa), some (.ref L')] ∧ Kp [b] H H6 ∧ Box H6 b r ∧ H6 O = some (.lst us) ∧ ShsO X.K O H6 us xs ∧ H6 fa = some (.tup (first.map V.int)) ∧ L' ≠ O ∧ H6 L' = some (.lst us5') ∧ StsP X.K H6 us5' xs5' ∧ xs5'.length ≤ 20 ∧ (∀ x ∈ xs5', PlOk x.2.2 ∧ RowOk x.2.1 ∧ x.2.1.length ≤ 100 ∧ isThing x.2.1 = true) := ⟨L, us5, xs5, rfl, hid6.1, b6, hO6, d6, hfa6, nLO, hL6, dL6, by omega, gx⟩
        wtm_at "w"
        refine ite_d (fun _ => ?_) (fun _ => ?_)
        · wtm_at "w"
          refine ite_d (fun hl0 => ?_) (fun _ => ?_)
          · wtm_at "w"
            refine vsl_lst (Z.SqL.of' hL6) (fun L7 H7 k7 n7 h7 => ?_)
            rw [show cutV us5 (some (1 : Int)) none = us5.drop 1 from cut_drop us5 1 (by omega)] at h7
            have n7O : L7 ≠ O := (ne_of_none hO6 n7).symm
            wtm_at "w"
            exact ⟨L7, _, xs5.drop 1, rfl, hid6.1.tr0 k7, b6.kp k7, k7.at0 hO6, d6.kp k7, k7.t _ _ hfa6, n7O, h7, (dL6.kp k7).drop 1, by rw [List.length_drop]; omega, fun x mx => gx x (List.mem_of_mem_drop mx)⟩
          · repeat refine xb_nil ?_
            exact nb
        · repeat refine xb_nil ?_
          exact nb
      rintro σ' H6 ⟨L, us5, xs5, rfl, k6, b6, hO6, d6, hfa6, nLO, hL6, dL6, lx6, gx6⟩
      have hid6 : Kp [b] H H6 ∧ True := ⟨k6, trivial⟩
      clear k6 b5 hO5 d5' hid5 hfa5 hL dL
      wtm_at "w"
      intro sa H7 k7 nsa hsa
      have nsO : sa ≠ O := (ne_of_none hO6 nsa).symm
      have x7 : ShO X.K O H7 (.ref sa) (fa, first, xs5) := ⟨sa, L, us5, rfl, nsO, nLO, hsa, k7.at0 hL6, dL6.kp k7, k7.t _ _ hfa6⟩
      refine ⟨k7.at0 hO6, szl (by omega), fun H8 k8 h8 => ?_⟩
      repeat refine xb_nil ?_
      have b7 := b6.kp k7
      refine ⟨_, _, _, us ++ [.ref sa], xs ++ [(fa, first, xs5)], rfl, ?_, b7.kp1 k8 nOb, h8, ?_, by simp [lu]⟩
      · exact kp_shrink (((hid6.1.tr0 k7).wk (B := [b, O]) (fun l m => by rw [List.mem_singleton.mp m]; simp)).tr k8 (fun l m => .inl (by rw [List.mem_singleton.mp m]; simp))) (fun l m => by
          rcases List.mem_cons.mp m with z | z
          · exact .inl (by rw [z]; simp)
          · rw [List.mem_singleton.mp z]; exact .inr nO)
      · have sf : ∀ l ∈ [O], l = b ∨ l = O := fun l m => .inr (List.mem_singleton.mp m)
        exact ShsO.snoc (x7.safe b7 k8 sf) ⟨fth, fl, lx6, gx6⟩ ((d6.kp k7).safe b7 k8 sf)
    · rintro σ' H2 ⟨v5, v6, v7, us, xs, rfl, k2, b2, hO2, d2, lu⟩
      wtm_at "w"
      exact q O us xs H2 k2 b2 nO hO2 d2 lu
end
/-! dueP -/
section
local macro_rules | `(tactic| wtm_at "d") => `(tactic| first | ((with_reducible show Z.XE _ (PySem.Expr.Call (PySem.Expr.Name "list" _) (_ :: _) [] _) _ _ _); refine Z.xe_callTy (id := "list") (by assumption) (by wtm_at "m") T.b_list (by decide +kernel) ?_) | ((with_reducible show Z.XE _ (PySem.Expr.Name "list" _) _ _ _); refine Z.xe_ty (id := "list") (by assumption) (by wtm_at "m") T.b_list (by decide +kernel) ?_) | ((with_reducible show Z.XE _ (PySem.Expr.Call (PySem.Expr.Name "Paper" _) (_ :: _) [] _) _ _ _); refine Z.xe_make (by assumption) (Law.ok_Paper T) (by wtm_at "m") (by omega) ?_) | fail)
/-- a new paper: its list of steps is new too -/
def PpF (K : PySem.W.Frag) (CP : Addr) (H0 H : Hp) (p fa : Addr) (first : List Int) (xs : List (Addr × Stp)) : Prop := ∃ (dx st : Addr) (vs : List V), H p = some (.ins CP dx (papF (.ref fa) st)) ∧ H st = some (.lst vs) ∧ StsP K H vs xs ∧ H fa = some (.tup (first.map V.int)) ∧ H0 st = none
theorem PpF.at {K : PySem.W.Frag} {CP p fa : Addr} {H0 H : Hp} {first : List Int} {xs : List (Addr × Stp)} (h : PpF K CP H0 H p fa first xs) : PpP K CP H p fa first xs := by
  obtain ⟨dx, st, vs, h1, h2, h3, h4, _⟩ := h
  exact ⟨dx, st, vs, h1, h2, h3, h4⟩
/-- papers beside the list L -/
def PpsO (K : PySem.W.Frag) (CP L : Addr) (H : Hp) (ps : List Addr) (xs : List P5) : Prop := ps.length = xs.length ∧ ∀ (i : Nat) (p : Addr) (x : P5), ps[i]? = some p → xs[i]? = some x → (∃ (dx st : Addr) (vs : List V), H p = some (.ins CP dx (papF (.ref x.1) st)) ∧ H st = some (.lst vs) ∧ StsP K H vs x.2.2 ∧ H x.1 = some (.tup (x.2.1.map V.int)) ∧ st ≠ L) ∧ P5ok x
section
variable {K : PySem.W.Frag} {CP L : Addr} {H H' : Hp} {ps : List Addr} {xs : List P5}
theorem PpsO.kp (h : PpsO K CP L H ps xs) (k : Kp [] H H') : PpsO K CP L H' ps xs := ⟨h.1, fun i p x a b => by
  obtain ⟨⟨dx, st, vs, h1, h2, h3, h4, h5⟩, o⟩ := h.2 i p x a b
  exact ⟨⟨dx, st, vs, k.at0 h1, k.at0 h2, h3.kp k, k.t _ _ h4, h5⟩, o⟩⟩
theorem PpsO.set {us : List V} (h : PpsO K CP L H ps xs) (k : Kp [L] H H') (hL : H L = some (.lst us)) : PpsO K CP L H' ps xs := ⟨h.1, fun i p x a b => by
  obtain ⟨⟨dx, st, vs, h1, h2, h3, h4, h5⟩, o⟩ := h.2 i p x a b
  exact ⟨⟨dx, st, vs, k.at1 (ne_of h1 hL (by intro z; cases z)) h1, k.at1 h5 h2, h3.kp k, k.t _ _ h4, h5⟩, o⟩⟩
theorem PpsO.snoc {p : Addr} {x : P5} (h : PpsO K CP L H ps xs) (g : ∃ (dx st : Addr) (vs : List V), H p = some (.ins CP dx (papF (.ref x.1) st)) ∧ H st = some (.lst vs) ∧ StsP K H vs x.2.2 ∧ H x.1 = some (.tup (x.2.1.map V.int)) ∧ st ≠ L) (o : P5ok x) : PpsO K CP L H (ps ++ [p]) (xs ++ [x]) := by
  refine ⟨by simp [h.1], fun i p' t' a c => ?_⟩
  by_cases hi : i < ps.length
  · rw [List.getElem?_append_left hi] at a
    rw [List.getElem?_append_left (by rw [← h.1]; exact hi)] at c
    exact h.2 i p' t' a c
  · rw [List.getElem?_append_right (by omega)] at a
    rw [List.getElem?_append_right (by rw [← h.1]; omega)] at c
    have i0 : i - ps.length = 0 := by
      have := (List.getElem?_eq_some_iff.mp a).1
      simp at this; omega
    rw [i0] at a
    rw [show i - xs.length = 0 by rw [← h.1]; exact i0] at c
    have e1 : p = p' := by simpa using a
    have e2 : x = t' := by simpa using c
    rw [← e1, ← e2]; exact ⟨g, o⟩
theorem PpsO.nil : PpsO K CP L H [] [] := ⟨rfl, fun i p x a _ => by simp at a⟩
theorem PpsO.at (h : PpsO K CP L H ps xs) : PpsP K CP H ps xs := ⟨h.1, fun i p x a b => by
  obtain ⟨⟨dx, st, vs, h1, h2, h3, h4, _⟩, o⟩ := h.2 i p x a b
  exact ⟨⟨dx, st, vs, h1, h2, h3, h4⟩, o⟩⟩
end
def sp_lpaperP (K : PySem.W.Frag) (CP : Addr) : Sp := fun vs H Q _ => ∃ (fa st : Addr) (first : List Int) (us : List V) (xs : List (Addr × Stp)), vs = [.ref fa, .ref st] ∧ H fa = some (.tup (first.map V.int)) ∧ H st = some (.lst us) ∧ StsP K H us xs ∧ ∀ p H', Kp [] H H' → PpF K CP H H' p fa first xs → Q (.ref p) H'
theorem ok__law_paper (T : Txt P w K mg base) : DefOk P w K mg base "_law_paper" ["first", "steps"] 3 (sp_lpaperP K T.C_Paper) := by
  refine DefOk.by T.d__law_paper sc__law_paper oc__law_paper (fun vs H Q E h => ?_) (fun X e1 e2 e3 e4 e5 C H vs Q E h => ?_)
  · obtain ⟨fr, st, first, us, xs, rfl, _⟩ := h; rfl
  · obtain ⟨fr, st, first, us, xs, rfl, hf, hs, hd, q⟩ := h
    wtm_at "go"
    wtm_at "w"
    refine vc_listL (Z.SqL.of' hs) (fun l H1 k1 nl hl => ?_)
    wtm_at "w"
    intro p dp np nd nne
    refine ⟨p, dp, l, .ref fr, us, rfl, upd_same, Z.SqL.of' ((Kp.made np nd nne).at0 hl), fun s2 H2 k2 h2 ns2 hs2 => ⟨rfl, ?_⟩⟩
    have k12 : Kp [] H1 H2 := (Kp.made np nd nne).tr1 k2 (.inr np)
    have k02 := k1.tr0 k12
    exact q p H2 k02 ⟨dp, s2, us, h2, hs2, hd.kp k02, k02.t _ _ hf, k1.n _ ((Kp.made np nd nne).n _ ns2)⟩
/-- a shown paper -/
def ShP (K : PySem.W.Frag) (H : Hp) (sa : Addr) (x : P5) : Prop := ∃ (st : Addr) (vs : List V), H sa = some (.lst [.ref x.1, .ref st]) ∧ H st = some (.lst vs) ∧ StsP K H vs x.2.2 ∧ H x.1 = some (.tup (x.2.1.map V.int))
theorem ShP.kp {K : PySem.W.Frag} {H H' : Hp} {sa : Addr} {x : P5} (h : ShP K H sa x) (k : Kp [] H H') : ShP K H' sa x := by
  obtain ⟨st, vs, h1, h2, h3, h4⟩ := h
  exact ⟨st, vs, k.at0 h1, k.at0 h2, h3.kp k, k.t _ _ h4⟩
theorem ShO.sh {K : PySem.W.Frag} {O : Addr} {H : Hp} {v : V} {x : P5} (h : ShO K O H v x) : ∃ sa, v = .ref sa ∧ ShP K H sa x := by
  obtain ⟨sa, st, vs, e, _, _, h1, h2, h3, h4⟩ := h
  exact ⟨sa, e, st, vs, h1, h2, h3, h4⟩
def sp_llast (K : PySem.W.Frag) : Sp := fun vs H Q _ => ∃ (sa : Addr) (x : P5), vs = [.ref sa] ∧ ShP K H sa x ∧ x.2.2.length ≤ 100 ∧ ∀ H', Kp [] H H' → Q (.ref (la5 x)) H'
theorem ok__law_last (T : Txt P w K mg base) : DefOk P w K mg base "_law_last" ["shown"] 1 (sp_llast K) := by
  refine DefOk.by T.d__law_last sc__law_last oc__law_last (fun vs H Q E h => ?_) (fun X e1 e2 e3 e4 e5 C H vs Q E h => ?_)
  · obtain ⟨sa, x, rfl, _⟩ := h; rfl
  · obtain ⟨sa, x, rfl, ⟨st, vs, h1, h2, h3, h4⟩, lx, q⟩ := h
    have lv := h3.len
    wtm_at "go"
    wtm_at "w"
    intro l1 H1 k1 n1 hl1
    have h11 := k1.at0 h1
    have h21 := k1.at0 h2
    have h31 := h3.kp k1
    have hid1 : Kp [] H H1 ∧ True := ⟨k1, trivial⟩
    clear k1 h1 h2 h3 h4
    wtm_at "w"
    refine xe_lc C ?_
    refine xlc_L (Vs' := ["step"]) (G' := []) (nm := "step") (i := 1) (by assumption) ⟨rfl, by decide +kernel, by decide +kernel, rfl, by decide +kernel, by decide⟩ ?_
    wtm_at "w"
    refine ⟨st, vs, rfl, Z.SqL.of' h21, fun L H2 k2 nL hL => ⟨fun t H' => Kp [] H1 H' ∧ H' L = some (.lst ((x.2.2.map fun y => V.ref y.1).take t)), ⟨k2, hL⟩, ?_, ?_, ?_⟩⟩
    · rintro t H' _ ⟨k, _⟩
      exact Z.SqL.of' (k.at0 h21)
    · rintro t y H3 hy ⟨k3, hL3⟩
      obtain ⟨z, hz, T', pa, rfl, g1, g2, g3⟩ := (h31.kp k3).at hy
      have hi := (List.getElem?_eq_some_iff.mp hz).1
      have hs2 : (x.2.2.map fun y => V.ref y.1)[t]? = some (.ref z.1) := by rw [List.getElem?_map, hz]; rfl
      have hid3 : Kp [] H1 H3 ∧ True := ⟨k3, trivial⟩
      clear k2 k3
      refine ⟨_, by wtm_at "u", ?_⟩
      intro s0 H0 c' cl fp C'
      wtm_at "w"
      refine ⟨_, hL3, szl (by rw [List.length_take, List.length_map]; omega), fun H5 k5 h5 => ⟨hid3.1.tr1 k5 (.inr nL), ?_⟩⟩
      rw [h5, List.take_add_one, hs2]; rfl
    · rintro H3 ⟨k3, hL3⟩
      rw [lv, List.take_of_length_le (by rw [List.length_map]; omega)] at hL3
      refine vo_catL (k3.at0 hl1) hL3 (sz_ (by simp; omega)) (fun p5 H5 k5 n5 h5 => ?_)
      wtm_at "w"
      refine vx_lst (Z.SqL.of' h5) (at_getLast (lastA_at x.2.2 x.1)) ?_
      exact q H5 ((hid1.1.tr0 k3).tr0 k5)
end
/-! dueQ -/
section
local macro_rules | `(tactic| wtm_at "d") => `(tactic| first | ((with_reducible show Z.XE _ (PySem.Expr.Call (PySem.Expr.Name "len" _) (_ :: _) [] _) _ _ _); refine Z.xe_callB (id := "len") (by assumption) (by wtm_at "m") T.b_len (by decide +kernel) ?_) | ((with_reducible show Z.XE _ (PySem.Expr.Call (PySem.Expr.Name "is_accepted" _) (_ :: _) [] _) _ _ _); refine Z.xe_call (by assumption) (Law.ok_is_accepted T) (by wtm_at "m") (by omega) ?_) | ((with_reducible show Z.XE _ (PySem.Expr.Call (PySem.Expr.Name "_law_paper" _) (_ :: _) [] _) _ _ _); refine Z.xe_call (by assumption) (Law.ok__law_paper T) (by wtm_at "m") (by omega) ?_) | ((with_reducible show Z.XE _ (PySem.Expr.Call (PySem.Expr.Name "_law_last" _) (_ :: _) [] _) _ _ _); refine Z.xe_call (by assumption) (Law.ok__law_last T) (by wtm_at "m") (by omega) ?_) | fail)
/-- what the law knows beside the papers: the beacons, the heads with their hours, the papers shown -/
structure D55 (K : PySem.W.Frag) (CM : Addr) (H : Hp) (mx db dh ra O : Addr) (n f : Int) (bs : List (List Int)) (hs : List (List Int × Int)) (row : List Int) (us : List V) (xs : List P5) : Prop where
  hx : Mx CM H mx n f
  hb : ∃ kb, H db = some (.dT kb) ∧ ∀ r, (valV kb (keyOf r)).isSome = decide (r ∈ bs)
  hh : H dh = some (.dT (kvH hs))
  hra : H ra = some (.tup (row.map V.int))
  hO : H O = some (.lst us)
  hs : ShsO K O H us xs
  lu : us.length ≤ 100
  hn : 0 < n
  lr : row.length ≤ 100
  b2 : ∀ r ∈ bs, 2 ≤ r.length
theorem D55.kp {K : PySem.W.Frag} {CM : Addr} {H H' : Hp} {mx db dh ra O : Addr} {n f : Int} {bs : List (List Int)} {hs : List (List Int × Int)} {row : List Int} {us : List V} {xs : List P5} (h : D55 K CM H mx db dh ra O n f bs hs row us xs) (k : Kp [] H H') : D55 K CM H' mx db dh ra O n f bs hs row us xs := by
  obtain ⟨kb, e1, e2⟩ := h.hb
  exact ⟨h.hx.kp k, ⟨kb, k.at0 e1, e2⟩, k.at0 h.hh, k.t _ _ h.hra, k.at0 h.hO, h.hs.kp k, h.lu, h.hn, h.lr, h.b2⟩
def nV (k : Nat) : V := .int k
def sp_dueP (K : PySem.W.Frag) (CM : Addr) : Sp := fun vs H Q _ => ∃ (mx db dh ra O : Addr) (n f : Int) (bs : List (List Int)) (hs : List (List Int × Int)) (row : List Int) (us : List V) (xs : List P5), vs = [.ref mx, .ref db, .ref dh, .ref ra, .ref O] ∧ D55 K CM H mx db dh ra O n f bs hs row us xs ∧
  ∀ (R B A : Addr) (ws zs : List V) H', Kp [] H H' → H' R = some (.lst [.ref B, .ref A]) → H' B = some (.lst ws) → H' A = some (.lst zs) → PrsAt K H' ws (prs (okB5 n f bs row xs) (hrB5 xs) nV xs.length) → PrsAt K H' zs (prs (okH5 n f hs row xs) (hrH5 hs xs) nV xs.length) → Q (.ref R) H'
theorem ok__law_due_parts (T : Txt P w K mg base) : DefOk P w K mg base "_law_due_parts" ["mixing", "beacons", "heads", "row", "shown"] 12 (sp_dueP K T.C_Mixing) := by
  refine DefOk.by T.d__law_due_parts sc__law_due_parts oc__law_due_parts (fun vs H Q E h => ?_) (fun X e1 e2 e3 e4 e5 C H vs Q E h => ?_)
  · obtain ⟨mx, db, dh, ra, O, n, f, bs, hs, row, us, xs, rfl, _⟩ := h; rfl
  · obtain ⟨mx, db, dh, ra, O, n, f, bs, hs, row, us, xs, rfl, S, q⟩ := h
    have lu := S.lu
    have lx := S.hs.len
    wtm_at "go"
    wtm_at "w"
    intro B H1 k1 nB hB
    wtm_at "w"
    intro A H2 k2 nA hA
    have nBA : B ≠ A := ne_of_none hB nA
    have hB2 := k2.at0 hB
    have S2 := S.kp (k1.tr0 k2)
    have hid2 : Kp [] H H2 ∧ True := ⟨k1.tr0 k2, trivial⟩
    have nA0 := k1.n _ nA
    have nB0 := nB
    clear k1 k2 hB nA
    wtm_at "w"
    refine xs_forR1 C (by wtm_at "m") T.b_range ?_
    have hO2 := S2.hO
    wtm_at "w"
    refine ⟨us.length, rfl, by omega, by omega, fun i σ H' => ∃ (v7 v8 : Option V) (ws zs : List V), σ = [some (.ref mx), some (.ref db), some (.ref dh), some (.ref ra), some (.ref O), some (.ref B), some (.ref A), v7, v8] ∧ Kp [] H H' ∧ H' B = some (.lst ws) ∧ H' A = some (.lst zs) ∧ PrsAt X.K H' ws (prs (okB5 n f bs row xs) (hrB5 xs) nV i) ∧ PrsAt X.K H' zs (prs (okH5 n f hs row xs) (hrH5 hs xs) nV i), ⟨_, _, [], [], rfl, hid2.1, hB2, hA, trivial, trivial⟩, ?_, ?_⟩
    · rintro i σ' H3 hi ⟨v7, v8, ws, zs, rfl, k3, hB3, hA3, dB, dA⟩
      have hi' : i < us.length := by omega
      have S3 := S.kp k3
      have hid3 : Kp [] H H3 ∧ True := ⟨k3, trivial⟩
      clear k3 S2 hB2 hA hid2
      obtain ⟨x, hxi, so, ho⟩ := S3.hs.at (List.getElem?_eq_getElem hi')
      obtain ⟨sa, esa, hs3⟩ := so.sh
      have gx := getD_of (d := d5) hxi
      have hui : us[i]? = some (.ref sa) := by rw [List.getElem?_eq_getElem hi', esa]
      clear so esa
      have ro := ho.ro
      have ls := ho.ls
      have lws := dB.len
      have lzs := dA.len
      have lp1 := prs_le (okB5 n f bs row xs) (hrB5 xs) nV i
      have lp2 := prs_le (okH5 n f hs row xs) (hrH5 hs xs) nV i
      have hG : okB5 n f bs row xs i = (decide (x.2.1 ∈ bs) && (decide (ls5 x = row) && ok5 n f x)) := by unfold okB5; rw [gx]
      have hG' : okH5 n f hs row xs i = ((lkR hs (ls5 x)).isSome && (decide (x.2.1 = row) && ok5 n f x)) := by unfold okH5; rw [gx]
      have hh : hrB5 xs i = x.2.1.getD 1 0 := by unfold hrB5; rw [gx]
      have hh' : hrH5 hs xs i = (lkR hs (ls5 x)).getD 0 := by unfold hrH5; rw [gx]
      obtain ⟨st, vs, a1, a2, a3, a4⟩ := id hs3
      wtm_at "w"
      refine vx_lst (Z.SqL.of' S3.hO) (at_nat hui) ?_
      wtm_at "w"
      refine vx_lst (Z.SqL.of' S3.hO) (at_nat hui) ?_
      wtm_at "w"
      refine ⟨x.1, st, x.2.1, vs, x.2.2, rfl, a4, a2, a3, fun p H4 k4 hp => ?_⟩
      have S4 := S3.kp k4
      have hs4 := hs3.kp k4
      have hB4 := k4.at0 hB3
      have hA4 := k4.at0 hA3
      have dB4 := PrsAt.kp k4 dB
      have dA4 := PrsAt.kp k4 dA
      have hid4 : Kp [] H H4 ∧ True := ⟨hid3.1.tr0 k4, trivial⟩
      clear k4 S3 hs3 hB3 hA3 dB dA hid3 a1 a2 a3 a4
      wtm_at "w"
      refine ⟨mx, p, n, f, x.2.1, ss5 x, rfl, S4.hx, S4.hn, hp.at.at, ro, fun H5 k5 => ?_⟩
      have S5 := S4.kp k5
      have hs5 := hs4.kp k5
      have hB5 := k5.at0 hB4
      have hA5 := k5.at0 hA4
      have dB5 := PrsAt.kp k5 dB4
      have dA5 := PrsAt.kp k5 dA4
      have hid5 : Kp [] H H5 ∧ True := ⟨hid4.1.tr0 k5, trivial⟩
      clear k5 S4 hs4 hB4 hA4 dB4 dA4 hid4 hp
      by_cases c3 : papFault n f x.2.1 (ss5 x) = none
      · rw [show ok5 n f x = true from decide_eq_true c3, Bool.and_true] at hG hG'
        rw [decide_eq_true c3]
        obtain ⟨kb, hb, hk⟩ := S5.hb
        refine vt_bl ?_
        refine L2.iteT ?_
        refine xb_cons (XS.imp (nx := fun σ H' => ∃ ws', σ = [some (.ref mx), some (.ref db), some (.ref dh), some (.ref ra), some (.ref O), some (.ref B), some (.ref A), some (.int i), some (.ref p)] ∧ Kp [] H H' ∧ H' B = some (.lst ws') ∧ H' A = some (.lst zs) ∧ PrsAt X.K H' ws' (prs (okB5 n f bs row xs) (hrB5 xs) nV (i + 1)) ∧ PrsAt X.K H' zs (prs (okH5 n f hs row xs) (hrH5 hs xs) nV i)) ?_ ?_)
        · obtain ⟨st, vs, a1, a2, a3, a4⟩ := id hs5
          have hO5 := S5.hO
          wtm_at "w"
          refine vx_lst (Z.SqL.of' hO5) (at_nat hui) ?_
          wtm_at "w"
          refine vo_inD C (.inr ⟨_, keyOf x.2.1, x.1, .inl hb, rfl, by rw [keyOf_kV]; exact a4, rfl⟩) ?_
          rw [hk]
          by_cases c1 : x.2.1 ∈ bs
          · have hf := S5.b2 _ c1
            rw [decide_eq_true c1] at hG ⊢
            wtm_at "w"
            refine vx_lst (Z.SqL.of' hO5) (at_nat hui) ?_
            wtm_at "w"
            refine ⟨sa, x, rfl, hs5, by omega, fun H6 k6 => ?_⟩
            have hl6 : SqT X.K H6 (la5 x) ((ls5 x).map V.int) := Z.SqT.of' (lastA_tup (a3.kp k6) (k6.t _ _ a4))
            have S6 := S5.kp k6
            have hs6 := hs5.kp k6
            have hB6 := k6.at0 hB5
            have hA6 := k6.at0 hA5
            have dB6 := PrsAt.kp k6 dB5
            have dA6 := PrsAt.kp k6 dA5
            have hid6 : Kp [] H H6 ∧ True := ⟨hid5.1.tr0 k6, trivial⟩
            clear k6 S5 hs5 hB5 hA5 dB5 dA5 hid5 a1 a2 a3 a4 hb hO5
            wtm_at "w"
            refine vo_eqT C hl6 (Z.SqT.of' S6.hra) ?_
            by_cases c2 : ls5 x = row
            · rw [decide_eq_true c2] at hG ⊢
              obtain ⟨st, vs, a1, a2, a3, a4⟩ := id hs6
              have hO6 := S6.hO
              wtm_at "w"
              refine vx_lst (Z.SqL.of' hO6) (at_nat hui) ?_
              wtm_at "w"
              refine vx_tup (Z.SqT.of' a4) (at_getD 1 (by omega)) ?_
              wtm_at "w"
              intro TT H7 k7 h7 _
              refine ⟨k7.at0 hB6, szl (by omega), fun H8 k8 h8 => ?_⟩
              have hA8 := k8.at1 (Ne.symm nBA) (k7.at0 hA6)
              repeat refine xb_nil ?_
              refine ⟨_, rfl, (hid6.1.tr0 k7).tr1 k8 (.inr nB0), h8, hA8, ?_, PrsAt.kp k8 (PrsAt.kp k7 dA6)⟩
              rw [prs_pos hG, hh]
              exact PrsAt.snoc (k8.tup h7) (PrsAt.kp k8 (PrsAt.kp k7 dB6))
            · rw [decide_eq_false c2] at hG ⊢
              wtm_at "w"
              repeat refine xb_nil ?_
              exact ⟨ws, rfl, hid6.1, hB6, hA6, by rw [prs_neg hG]; exact dB6, dA6⟩
          · rw [decide_eq_false c1] at hG ⊢
            wtm_at "w"
            repeat refine xb_nil ?_
            exact ⟨ws, rfl, hid5.1, hB5, hA5, by rw [prs_neg hG]; exact dB5, dA5⟩
        · rintro σ' H6 ⟨ws', rfl, k6, hB6, hA6, dB6, dA6⟩
          have S6 := S.kp k6
          have hs6 : ShP X.K H6 sa x := by
            obtain ⟨x', hx', so, _⟩ := S6.hs.at hui
            have ex : x' = x := Option.some.inj (hx'.symm.trans hxi)
            obtain ⟨sa', e, g⟩ := so.sh
            rw [V.ref.inj e, ← ex]; exact g
          have hid6 : Kp [] H H6 ∧ True := ⟨k6, trivial⟩
          clear k6 S5 hs5 hB5 hA5 dB5 dA5 hid5 hb
          obtain ⟨st, vs, a1, a2, a3, a4⟩ := id hs6
          have hO6 := S6.hO
          refine xb_cons ?_
          wtm_at "w"
          refine vx_lst (Z.SqL.of' hO6) (at_nat hui) ?_
          wtm_at "w"
          refine vo_eqT C (Z.SqT.of' a4) (Z.SqT.of' S6.hra) ?_
          by_cases c1 : x.2.1 = row
          · rw [decide_eq_true c1, Bool.and_true] at hG'
            rw [decide_eq_true c1]
            wtm_at "w"
            refine vx_lst (Z.SqL.of' hO6) (at_nat hui) ?_
            wtm_at "w"
            refine ⟨sa, x, rfl, hs6, by omega, fun H7 k7 => ?_⟩
            have hl7 : H7 (la5 x) = some (.tup ((ls5 x).map V.int)) := lastA_tup (a3.kp k7) (k7.t _ _ a4)
            have S7 := S6.kp k7
            have hs7 := hs6.kp k7
            have hB7 := k7.at0 hB6
            have hA7 := k7.at0 hA6
            have dB7 := PrsAt.kp k7 dB6
            have dA7 := PrsAt.kp k7 dA6
            have hid7 : Kp [] H H7 ∧ True := ⟨hid6.1.tr0 k7, trivial⟩
            clear k7 S6 hs6 hB6 hA6 dB6 dA6 hid6 a1 a2 a3 a4 hO6
            have hh7 := S7.hh
            wtm_at "w"
            refine vo_inD C (.inr ⟨_, keyOf (ls5 x), la5 x, .inl hh7, rfl, by rw [keyOf_kV]; exact hl7, rfl⟩) ?_
            rw [valV_kvH]
            cases c2 : lkR hs (ls5 x) with
            | none =>
              rw [c2] at hG'
              refine ex_bl ?_
              refine L2.iteF ?_
              repeat refine xb_nil ?_
              exact ⟨_, _, ws', zs, rfl, hid7.1, hB7, hA7, dB7, by rw [prs_neg hG']; exact dA7⟩
            | some hr =>
              rw [c2] at hG' hh'
              refine ex_bl ?_
              refine L2.iteT ?_
              obtain ⟨st, vs, a1, a2, a3, a4⟩ := id hs7
              have hO7 := S7.hO
              wtm_at "w"
              refine vx_lst (Z.SqL.of' hO7) (at_nat hui) ?_
              wtm_at "w"
              refine ⟨sa, x, rfl, hs7, by omega, fun H8 k8 => ?_⟩
              have hl8 := k8.t _ _ hl7
              have hh8 := k8.at0 hh7
              refine vx_dict C (.inr ⟨_, keyOf (ls5 x), la5 x, .inl hh8, rfl, by rw [keyOf_kV]; exact hl8, by rw [valV_kvH, c2]; rfl⟩) ?_
              wtm_at "w"
              intro TT H9 k9 h9 _
              refine ⟨k9.at0 (k8.at0 hA7), szl (by omega), fun H10 k10 h10 => ?_⟩
              have hB10 := k10.at1 nBA (k9.at0 (k8.at0 hB7))
              repeat refine xb_nil ?_
              refine ⟨_, _, _, _, rfl, ((hid7.1.tr0 k8).tr0 k9).tr1 k10 (.inr nA0), hB10, h10, PrsAt.kp k10 (PrsAt.kp k9 (PrsAt.kp k8 dB7)), ?_⟩
              rw [prs_pos hG', hh']
              exact PrsAt.snoc (k10.tup h9) (PrsAt.kp k10 (PrsAt.kp k9 (PrsAt.kp k8 dA7)))
          · rw [decide_eq_false c1, Bool.and_false] at hG'
            rw [decide_eq_false c1]
            wtm_at "w"
            repeat refine xb_nil ?_
            exact ⟨_, _, ws', zs, rfl, hid6.1, hB6, hA6, dB6, by rw [prs_neg hG']; exact dA6⟩
      · rw [show ok5 n f x = false from decide_eq_false c3, Bool.and_false, Bool.and_false] at hG hG'
        rw [decide_eq_false c3]
        wtm_at "w"
        repeat refine xb_nil ?_
        exact ⟨_, _, ws, zs, rfl, hid5.1, hB5, hA5, by rw [prs_neg hG]; exact dB5, by rw [prs_neg hG']; exact dA5⟩
    · rintro σ' H3 ⟨v7, v8, ws, zs, rfl, k3, hB3, hA3, dB, dA⟩
      have hid3 : Kp [] H H3 ∧ True := ⟨k3, trivial⟩
      clear k3 S2 hB2 hA hid2
      rw [Int.toNat_natCast, lx] at dB dA
      wtm_at "w"
      intro R H4 k4 nR hR
      exact q R B A ws zs H4 (hid3.1.tr0 k4) hR (k4.at0 hB3) (k4.at0 hA3) (PrsAt.kp k4 dB) (PrsAt.kp k4 dA)
end
/-! st54 -/
/-! the state at each turn -/
theorem Kp.lsts {A : List Addr} {H H' : Hp} {p : Addr} {xs : List V} (k : Kp A H H') (hA : ∀ l ∈ A, ∃ o, H l = some o ∧ ∀ ys, o ≠ .lst ys) (h : H p = some (.lst xs)) : H' p = some (.lst xs) := k.at (fun m => by
  obtain ⟨o, e, n⟩ := hA p m
  rw [e] at h; exact n xs (Option.some.inj h)) h
theorem ThsAt.keep {K : PySem.W.Frag} {H H' : Hp} {n f : Int} {ps : List Addr} {ts : List (List Int × List Int)} (h : ThsAt K H n f ps ts) (hl : ∀ p xs, H p = some (.lst xs) → H' p = some (.lst xs)) (ht : ∀ p xs, H p = some (.tup xs) → H' p = some (.tup xs)) : ThsAt K H' n f ps ts := ⟨h.1, fun i p t a c => by
  obtain ⟨a', e', g1, g2, g3, g4⟩ := h.2 i p t a c
  exact ⟨a', e', hl _ _ g1, ht _ _ g2, hl _ _ g3, g4⟩⟩
structure S54 (K : PySem.W.Frag) (CN CM : Addr) (H : Hp) (b r pm M z dx mx dB dH hd : Addr) (t n f : Int) (ps : List Addr) (ts : List (List Int × List Int)) (bs : List (List Int)) (hs : List (List Int × Int)) : Prop where
  bx : Box H b r
  hm : H pm = some (.lst ([n, f].map V.int))
  hM : H M = some (.lst (ps.map V.ref))
  th : ThsAt K H n f ps ts
  nb : NbAt CN CM H z dx mx dB dH t n f bs hs
  hh : H hd = some (.dT (kvH hs))
  n1 : hd ≠ dB
  n2 : hd ≠ dH
section
variable {K : PySem.W.Frag} {CN CM b r pm M z dx mx dB dH hd : Addr} {H H' : Hp} {t n f : Int} {ps : List Addr} {ts : List (List Int × List Int)} {bs : List (List Int)} {hs : List (List Int × Int)}
theorem S54.kp (s : S54 K CN CM H b r pm M z dx mx dB dH hd t n f ps ts bs hs) (k : Kp [] H H') : S54 K CN CM H' b r pm M z dx mx dB dH hd t n f ps ts bs hs :=
  ⟨s.bx.kp k, k.at0 s.hm, k.at0 s.hM, s.th.kp k, car k s.nb, k.at0 s.hh, s.n1, s.n2⟩
theorem S54.draw (s : S54 K CN CM H b r pm M z dx mx dB dH hd t n f ps ts bs hs) (k : Kp [b] H H') (b' : Box H' b r) : S54 K CN CM H' b r pm M z dx mx dB dH hd t n f ps ts bs hs :=
  ⟨b', k.at1 (s.bx.neInts s.hm) s.hm, k.at1 (s.bx.neRefs s.hM) s.hM, s.th.draw s.bx k, carB s.bx k s.nb, s.bx.other k (fun _ e => nomatch e) s.hh, s.n1, s.n2⟩
theorem S54.nbs {A : List Addr} {t' : Int} {bs' : List (List Int)} {hs' : List (List Int × Int)} (s : S54 K CN CM H b r pm M z dx mx dB dH hd t n f ps ts bs hs) (k : Kp A H H') (hA : ∀ l ∈ A, (∃ o, H l = some o ∧ ∀ ys, o ≠ .lst ys)) (nb' : NbAt CN CM H' z dx mx dB dH t' n f bs' hs') (hh' : H' hd = some (.dT (kvH hs'))) : S54 K CN CM H' b r pm M z dx mx dB dH hd t' n f ps ts bs' hs' := by
  refine ⟨?_, Kp.lsts k hA s.hm, Kp.lsts k hA s.hM, s.th.keep (fun p xs h => Kp.lsts k hA h) (fun p xs h => k.t _ _ h), nb', hh', s.n1, s.n2⟩
  obtain ⟨i, ns, h1, h2, h3⟩ := s.bx
  exact ⟨i, ns, Kp.lsts k hA h1, h2, Kp.lsts k hA h3⟩
end
theorem NbAt.dt {CN CM a dx mx dB dH l : Addr} {H H' : Hp} {t n f : Int} {bs : List (List Int)} {hs : List (List Int × Int)} {kv : List (List Key × V)} (h : NbAt CN CM H a dx mx dB dH t n f bs hs) (hl : H l = some (.dT kv)) (k : Kp [l] H H') (n1 : dB ≠ l) (n2 : dH ≠ l) : NbAt CN CM H' a dx mx dB dH t n f bs hs := by
  obtain ⟨d, e⟩ := h.hx
  obtain ⟨kb, e2, r⟩ := h.hB
  exact ⟨k.at1 (ne_of h.ha hl (by intro z; cases z)) h.ha, ⟨d, k.at1 (ne_of e hl (by intro z; cases z)) e⟩, ⟨kb, k.at1 n1 e2, r⟩, k.at1 n2 h.hH, h.ne, h.ma⟩
/-! st55 -/
structure S55 (K : PySem.W.Frag) (CN CM : Addr) (H : Hp) (b r pm M z dx mx dB dH db hd : Addr) (t n f : Int) (ps : List Addr) (ts : List (List Int × List Int)) (bs : List (List Int)) (hs : List (List Int × Int)) : Prop where
  s : S54 K CN CM H b r pm M z dx mx dB dH hd t n f ps ts bs hs
  hb : ∃ kb, H db = some (.dT kb) ∧ kb.length ≤ bs.length ∧ ∀ r, (valV kb (keyOf r)).isSome = decide (r ∈ bs)
  n3 : db ≠ dB
  n4 : db ≠ dH
  n5 : db ≠ hd
  b2 : ∀ r ∈ bs, 2 ≤ r.length
section
variable {K : PySem.W.Frag} {CN CM b r pm M z dx mx dB dH db hd : Addr} {H H' H'' : Hp} {t n f : Int} {ps : List Addr} {ts : List (List Int × List Int)} {bs : List (List Int)} {hs : List (List Int × Int)}
theorem S55.kp (s : S55 K CN CM H b r pm M z dx mx dB dH db hd t n f ps ts bs hs) (k : Kp [] H H') : S55 K CN CM H' b r pm M z dx mx dB dH db hd t n f ps ts bs hs := by
  obtain ⟨kb, e1, e2, e3⟩ := s.hb
  exact ⟨s.s.kp k, ⟨kb, k.at0 e1, e2, e3⟩, s.n3, s.n4, s.n5, s.b2⟩
theorem S55.draw (s : S55 K CN CM H b r pm M z dx mx dB dH db hd t n f ps ts bs hs) (k : Kp [b] H H') (b' : Box H' b r) : S55 K CN CM H' b r pm M z dx mx dB dH db hd t n f ps ts bs hs := by
  obtain ⟨kb, e1, e2, e3⟩ := s.hb
  exact ⟨s.s.draw k b', ⟨kb, s.s.bx.other k (fun _ e => nomatch e) e1, e2, e3⟩, s.n3, s.n4, s.n5, s.b2⟩
/-- a beacon noted, by the notebook and by the law -/
theorem S55.note {rs : List Int} {o : V} {kb : List (List Key × V)} (s : S55 K CN CM H b r pm M z dx mx dB dH db hd t n f ps ts bs hs) (k : Kp [dB] H H') (nb : NbAt CN CM H' z dx mx dB dH t n f (bs ++ [rs]) hs) (l2 : 2 ≤ rs.length)
    (hk : H db = some (.dT kb)) (lk : kb.length ≤ bs.length) (ik : ∀ r, (valV kb (keyOf r)).isSome = decide (r ∈ bs)) (k2 : Kp [db] H' H'') (e : H'' db = some (.dT (putK kb (keyOf rs) o))) : S55 K CN CM H'' b r pm M z dx mx dB dH db hd t n f ps ts (bs ++ [rs]) hs := by
  have hk' : H' db = some (.dT kb) := k.at1 s.n3 hk
  have kk : Kp [dB, db] H H'' := (k.wk (fun l m => by rw [List.mem_singleton.mp m]; simp)).tr1 k2 (.inl (by simp))
  have nb2 : NbAt CN CM H'' z dx mx dB dH t n f (bs ++ [rs]) hs := nb.dt hk' k2 (Ne.symm s.n3) (Ne.symm s.n4)
  obtain ⟨kb0, eB, _⟩ := s.s.nb.hB
  refine ⟨s.s.nbs kk (fun l m => ?_) nb2 (k2.at1 (Ne.symm s.n5) (k.at1 s.s.n1 s.s.hh)), ⟨_, e, ?_, fun r => ?_⟩, s.n3, s.n4, s.n5, fun r m => ?_⟩
  · simp only [List.mem_cons, List.not_mem_nil, or_false] at m
    rcases m with rfl | rfl
    · exact ⟨_, eB, fun ys z => nomatch z⟩
    · exact ⟨_, hk, fun ys z => nomatch z⟩
  · have := length_putK kb (keyOf rs) o
    rw [List.length_append]; simp; omega
  · rw [valV_put]
    by_cases e : r = rs
    · rw [if_pos (by rw [e])]; simp [e]
    · rw [if_neg (fun z => e (keyOf_inj z)), ik r]; simp [e]
  · rcases List.mem_append.mp m with z | z
    · exact s.b2 r z
    · rw [List.mem_singleton.mp z]; exact l2
/-- a head seen -/
theorem S55.saw {t' : Int} {hs' : List (List Int × Int)} {A : List Addr} (s : S55 K CN CM H b r pm M z dx mx dB dH db hd t n f ps ts bs hs) (k : Kp A H H') (hA : ∀ l ∈ A, (∃ o, H l = some o ∧ ∀ ys, o ≠ .lst ys) ∧ l ≠ db) (nb : NbAt CN CM H' z dx mx dB dH t' n f bs hs') (hh : H' hd = some (.dT (kvH hs'))) : S55 K CN CM H' b r pm M z dx mx dB dH db hd t' n f ps ts bs hs' := by
  obtain ⟨kb, e1, e2, e3⟩ := s.hb
  exact ⟨s.s.nbs k (fun l m => (hA l m).1) nb hh, ⟨kb, k.at (fun m => (hA _ m).2 rfl) e1, e2, e3⟩, s.n3, s.n4, s.n5, s.b2⟩
end
theorem Th.two_len {n f : Int} {row es : List Int} (h : Th n f row es) (e : row.getD 0 0 = 1) : 2 ≤ row.length := by
  cases h with
  | beacon => simp [rowB]
  | doc => exact absurd e (by show ¬ (2 : Int) = 1; decide)
  | renew => exact absurd e (by show ¬ (5 : Int) = 1; decide)
  | head => exact absurd e (by show ¬ (4 : Int) = 1; decide)
/-- a row is noted: the loop ahead -/
theorem k55_way {α : Type} {P : α → Prop} (h : ∃ x, P x) : ∃ x, P x := h
/-! ffok -/
/-! a paper without fault: each of its steps is whole -/
theorem ff_okW {n f : Int} : ∀ {ss : List Stp} {k : Nat} {bs : List Int}, ffault n f k bs ss = none → okW n f bs ss
  | [], _, _, _ => trivial
  | s :: r, k, bs, h => by
    rw [ffault] at h
    cases hw : stepWhy n f bs s.1 s.2 with
    | some w => rw [hw] at h; cases h
    | none =>
      rw [hw] at h
      exact ⟨hw, ff_okW h⟩
theorem pf_okW {n f : Int} {ss : List Stp} {bs : List Int} (h : papFault n f bs ss = none) : okW n f bs ss := by
  unfold papFault at h
  by_cases e : isThing bs = true
  · rw [if_pos e] at h; exact ff_okW h
  · rw [if_neg e] at h; cases h
/-! sok -/
/-! steps as data -/
def SOk (s : Stp) : Prop := RowOk s.1 ∧ (s.2.w = ("entry" : Str) → s.2.way.length ≤ 10000)
theorem way_short {n f : Int} {bs rs : List Int} {p : Pl} (h : stepWhy n f bs rs p = none) (ro : RowOk rs) (e : p.w = ("entry" : Str)) : p.way.length ≤ 68 := by
  unfold stepWhy at h
  by_cases h1 : isThing rs = true
  · rw [if_pos h1] at h
    by_cases h2 : hasPl rs p = true
    · rw [if_pos h2] at h
      by_cases h3 : holdsB n f rs p (dig n f bs) = true
      · have h2' := h2
        unfold hasPl at h2'
        rw [if_pos e] at h2'
        obtain ⟨g4, g0, g1⟩ := of_decide_eq_true h2'
        unfold holdsB at h3
        rw [if_pos e, h2, Bool.true_and] at h3
        have h3' := of_decide_eq_true h3
        unfold climbO at h3'
        by_cases hl : (tn (rs.getD 4 0).toNat p.i.toNat).length = p.way.length
        · have := tn_len 68 (rs.getD 4 0).toNat p.i.toNat (by have := ro.four g4; omega)
          omega
        · rw [if_neg hl] at h3'; cases h3'
      · rw [if_neg h3] at h; cases h
    · rw [if_neg h2] at h; cases h
  · rw [if_neg h1] at h; cases h
theorem okW.sok {n f : Int} : ∀ {ss : List Stp} {bs : List Int}, okW n f bs ss → (∀ s ∈ ss, RowOk s.1) → ∀ s ∈ ss, SOk s
  | [], _, _, _ => fun s m => nomatch m
  | s :: r, bs, h, g => fun x m => by
    rcases List.mem_cons.mp m with rfl | m
    · exact ⟨g x List.mem_cons_self, fun e => by have := way_short h.1 (g x List.mem_cons_self) e; omega⟩
    · exact okW.sok h.2 (fun y my => g y (List.mem_cons_of_mem _ my)) x m
theorem noLs_steps : ∀ ss : List Stp, noLs (ss.map stpD) = true
  | [] => rfl
  | s :: r => by simp [noLs, stpD, noL, noL_pl, noLs_ints, noLs_steps r]
theorem pl_stp {s : Stp} (h : SOk s) : (stpD s).depth ≤ 3 ∧ plainS (stpD s) := by
  have p1 := plainS_T (ns := s.1) (by have := h.1.len; omega)
  unfold stpD plD
  by_cases e : s.2.w = ("entry" : Str)
  · have p2 := plainS_T (ns := s.2.way) (by have := h.2 e; omega)
    rw [if_pos e]
    refine ⟨by simp only [PyData.depth, PyData.depthAll, depth_ints]; omega, ?_⟩
    simp only [plainS, plainSs]
    exact ⟨by simp, p1.1, ⟨by simp, trivial, trivial, p2.1, trivial⟩, trivial⟩
  · rw [if_neg e]
    refine ⟨by simp only [PyData.depth, PyData.depthAll, depth_ints]; omega, ?_⟩
    simp only [plainS, plainSs]
    exact ⟨by simp, p1.1, ⟨by simp, trivial, trivial, trivial⟩, trivial⟩
theorem pl_steps {ss : List Stp} (h : ∀ s ∈ ss, SOk s) (l : ss.length ≤ 100000) : (PyData.list (ss.map stpD)).depth ≤ 6 ∧ plainS (.list (ss.map stpD)) := by
  have a : ∀ ss : List Stp, (∀ s ∈ ss, SOk s) → PyData.depthAll (ss.map stpD) ≤ 3 ∧ plainSs (ss.map stpD) := by
    intro ss
    induction ss with
    | nil => intro _; simp [plainSs, PyData.depthAll]
    | cons s r ih =>
      intro g
      obtain ⟨i1, i2⟩ := ih (fun x m => g x (List.mem_cons_of_mem _ m))
      obtain ⟨j1, j2⟩ := pl_stp (g s List.mem_cons_self)
      rw [List.map_cons, plainSs, PyData.depthAll]
      exact ⟨by omega, j2, i2⟩
  obtain ⟨i1, i2⟩ := a ss h
  rw [PyData.depth, plainS, List.length_map]
  exact ⟨by omega, l, i2⟩
/-! turn55 -/
section
local macro_rules | `(tactic| wtm_at "d") => `(tactic| first | ((with_reducible show Z.XE _ (PySem.Expr.Call (PySem.Expr.Name "len" _) (_ :: _) [] _) _ _ _); refine Z.xe_callB (id := "len") (by assumption) (by wtm_at "m") T.b_len (by decide +kernel) ?_) | ((with_reducible show Z.XE _ (PySem.Expr.Call (PySem.Expr.Name "max" _) (_ :: _) [] _) _ _ _); refine Z.xe_callB (id := "max") (by assumption) (by wtm_at "m") T.b_max (by decide +kernel) ?_) | ((with_reducible show Z.XE _ (PySem.Expr.Call (PySem.Expr.Name "min" _) (_ :: _) [] _) _ _ _); refine Z.xe_callB (id := "min") (by assumption) (by wtm_at "m") T.b_min (by decide +kernel) ?_) | ((with_reducible show Z.XE _ (PySem.Expr.Call (PySem.Expr.Name "is_accepted" _) (_ :: _) [] _) _ _ _); refine Z.xe_call (by assumption) (Law.ok_is_accepted T) (by wtm_at "m") (by omega) ?_) | ((with_reducible show Z.XE _ (PySem.Expr.Call (PySem.Expr.Name "window" _) (_ :: _) [] _) _ _ _); refine Z.xe_call (by assumption) (Law.ok_window T) (by wtm_at "m") (by omega) ?_) | ((with_reducible show Z.XE _ (PySem.Expr.Call (PySem.Expr.Name "foretold" _) (_ :: _) [] _) _ _ _); refine Z.xe_call (by assumption) (Law.ok_foretold T) (by wtm_at "m") (by omega) ?_) | ((with_reducible show Z.XE _ (PySem.Expr.Call (PySem.Expr.Name "_law_row" _) (_ :: _) [] _) _ _ _); refine Z.xe_call (by assumption) (Law.ok__law_row T) (by wtm_at "m") (by omega) ?_) | ((with_reducible show Z.XE _ (PySem.Expr.Call (PySem.Expr.Name "_law_draw" _) (_ :: _) [] _) _ _ _); refine Z.xe_call (by assumption) (Law.ok__law_draw T) (by wtm_at "m") (by omega) ?_) | ((with_reducible show Z.XE _ (PySem.Expr.Call (PySem.Expr.Name "_law_same" _) (_ :: _) [] _) _ _ _); refine Z.xe_call (by assumption) (Law.ok__law_same T) (by wtm_at "m") (by omega) ?_) | ((with_reducible show Z.XE _ (PySem.Expr.Call (PySem.Expr.Name "_law_mix" _) (_ :: _) [] _) _ _ _); refine Z.xe_call (by assumption) (Law.ok__law_mix T) (by wtm_at "m") (by omega) ?_) | ((with_reducible show Z.XE _ (PySem.Expr.Call (PySem.Expr.Name "_law_things" _) (_ :: _) [] _) _ _ _); refine Z.xe_call (by assumption) (Law.ok__law_things T) (by wtm_at "m") (by omega) ?_) | ((with_reducible show Z.XE _ (PySem.Expr.Call (PySem.Expr.Name "_law_paper" _) (_ :: _) [] _) _ _ _); refine Z.xe_call (by assumption) (Law.ok__law_paper T) (by wtm_at "m") (by omega) ?_) | ((with_reducible show Z.XE _ (PySem.Expr.Call (PySem.Expr.Name "_law_papers" _) (_ :: _) [] _) _ _ _); refine Z.xe_call (by assumption) (Law.ok__law_papers T) (by wtm_at "m") (by omega) ?_) | ((with_reducible show Z.XE _ (PySem.Expr.Call (PySem.Expr.Name "_law_due_parts" _) (_ :: _) [] _) _ _ _); refine Z.xe_call (by assumption) (Law.ok__law_due_parts T) (by wtm_at "m") (by omega) ?_) | ((with_reducible show Z.XE _ (PySem.Expr.Call (PySem.Expr.Name "Mixing" _) (_ :: _) [] _) _ _ _); refine Z.xe_make (by assumption) (Law.ok_Mixing T) (by wtm_at "m") (by omega) ?_) | ((with_reducible show Z.XE _ (PySem.Expr.Call (PySem.Expr.Name "Notebook" _) (_ :: _) [] _) _ _ _); refine Z.xe_make (by assumption) (Law.ok_Notebook T) (by wtm_at "m") (by omega) ?_) | fail)
structure R55 (K : PySem.W.Frag) (CN CM CP : Addr) (H : Hp) (b r pm M z dx mx dB dH db hd O L : Addr) (t n f : Int) (ps : List Addr) (ts : List (List Int × List Int)) (bs : List (List Int)) (hs : List (List Int × Int)) (us : List V) (qs : List Addr) (xs : List P5) : Prop where
  s : S55 K CN CM H b r pm M z dx mx dB dH db hd t n f ps ts bs hs
  hO : H O = some (.lst us)
  hs : ShsO K O H us xs
  hL : H L = some (.lst (qs.map V.ref))
  hP : PpsP K CP H qs xs
  lu : us.length = 14
  hn : 0 < n
section
variable {K : PySem.W.Frag} {CN CM CP b r pm M z dx mx dB dH db hd O L ra : Addr} {H H' : Hp} {t n f : Int} {ps : List Addr} {ts : List (List Int × List Int)} {bs : List (List Int)} {hs : List (List Int × Int)} {us : List V} {qs : List Addr} {xs : List P5} {row : List Int}
theorem R55.kp (s : R55 K CN CM CP H b r pm M z dx mx dB dH db hd O L t n f ps ts bs hs us qs xs) (k : Kp [] H H') : R55 K CN CM CP H' b r pm M z dx mx dB dH db hd O L t n f ps ts bs hs us qs xs := ⟨s.s.kp k, k.at0 s.hO, s.hs.kp k, k.at0 s.hL, s.hP.kp k, s.lu, s.hn⟩
theorem R55.lx (s : R55 K CN CM CP H b r pm M z dx mx dB dH db hd O L t n f ps ts bs hs us qs xs) : xs.length = 14 ∧ qs.length = 14 := by
  have a := s.hs.len
  have b := s.hP.1
  have c := s.lu
  omega
theorem R55.d (s : R55 K CN CM CP H b r pm M z dx mx dB dH db hd O L t n f ps ts bs hs us qs xs) (h : H ra = some (.tup (row.map V.int))) (lr : row.length ≤ 100) : D55 K CM H mx db hd ra O n f bs hs row us xs := by
  obtain ⟨kb, e, _, g⟩ := s.s.hb
  exact ⟨s.s.s.nb.hx, ⟨kb, e, g⟩, s.s.s.hh, h, s.hO, s.hs, by have := s.lu; omega, s.hn, lr, s.s.b2⟩
theorem R55.win (s : R55 K CN CM CP H b r pm M z dx mx dB dH db hd O L t n f ps ts bs hs us qs xs) (h : H ra = some (.tup (row.map V.int))) (lr : row.length ≤ 100) : W55 K CN CM CP H z ra L dx mx dB dH t n f bs hs row qs xs :=
  ⟨s.s.s.nb, h, s.hL, s.hP, by have := s.lx.2; omega, s.hn, lr, s.s.b2⟩
end
theorem pf_join {n f : Int} {first row : List Int} {s1 s2 : List Stp} (h1 : papFault n f first s1 = none) (e : lastR first s1 = row) (h2 : papFault n f row s2 = none) (th : isThing first = true) : papFault n f first (s1 ++ s2) = none := by
  have o := okW_app (pf_okW h1) (by rw [e]; exact pf_okW h2)
  unfold papFault; rw [if_pos th]; exact o.ff 1
theorem pl_steps4 {ss : List Stp} (h : ∀ s ∈ ss, SOk s) (l : ss.length ≤ 100000) : (PyData.list (ss.map stpD)).depth ≤ 4 ∧ plainS (.list (ss.map stpD)) := by
  have a : ∀ ss : List Stp, (∀ s ∈ ss, SOk s) → PyData.depthAll (ss.map stpD) ≤ 3 ∧ plainSs (ss.map stpD) := by
    intro ss
    induction ss with
    | nil => intro _; simp [plainSs, PyData.depthAll]
    | cons s r ih =>
      intro g
      obtain ⟨i1, i2⟩ := ih (fun x m => g x (List.mem_cons_of_mem _ m))
      obtain ⟨j1, j2⟩ := pl_stp (g s List.mem_cons_self)
      rw [List.map_cons, plainSs, PyData.depthAll]
      exact ⟨by omega, j2, i2⟩
  obtain ⟨i1, i2⟩ := a ss h
  rw [PyData.depth, plainS, List.length_map]
  exact ⟨by omega, l, i2⟩
theorem pl_opt2 (o q : Option Int) : (PyData.tuple [oD o, oD q]).depth ≤ 4 ∧ plainS (.tuple [oD o, oD q]) := by
  cases o <;> cases q <;> simp [oD, PyData.depth, PyData.depthAll, plainS, plainSs]
theorem k55_turn (T : Txt P w K mg base) {X : Cx} (C : CxOf_law X 29) (e1 : X.prog = P) (e2 : X.w = w) (e3 : X.K = K) (e4 : X.mg = mg) (e5 : X.base = base) {nx : St → Hp → Prop} {D : B3} (a b r pm M z dx mx dB dH db hd O L p a' e' : Addr) (t n f : Int) (ps : List Addr) (ts : List (List Int × List Int)) (bs : List (List Int)) (hs : List (List Int × Int)) (us : List V) (qs : List Addr) (xs : List P5) (tt : List Int × List Int) (v9 v11 v13 v14 v15 v16 v17 : Option V) (H1 : Hp) (S : R55 X.K T.C_Notebook T.C_Mixing T.C_Paper H1 b r pm M z dx mx dB dH db hd O L t n f ps ts bs hs us qs xs) (hp : H1 p = some (.lst [.ref a', .ref e'])) (ha : H1 a' = some (.tup (tt.1.map V.int))) (g4 : Th n f tt.1 tt.2)
    (hn : ∀ (v11 v13 v14 v15 v16 v17 : Option V) H', Kp [] H1 H' → nx [some (.ref a), some (.ref b), some (.ref pm), some (.ref mx), some (.ref M), some (.ref z), some (.ref db), some (.ref hd), some (.ref p), v9, some (.ref O), v11, some (.ref L), v13, v14, v15, v16, v17, none] H') :
    XB X (forBody ((defBody s_law).getD 11 (.Pass ⟨0, 0, 0, 0⟩))) nx D [some (.ref a), some (.ref b), some (.ref pm), some (.ref mx), some (.ref M), some (.ref z), some (.ref db), some (.ref hd), some (.ref p), v9, some (.ref O), v11, some (.ref L), v13, v14, v15, v16, v17, none] H1 := by
  subst e1; subst e2; subst e3; subst e4; subst e5
  unfold CxOf_law at C
  have lr := g4.len
  have lx := S.lx
  have lu := S.lu
  refine xb_cons ?_
  wtm_at "w"
  refine ⟨mx, db, hd, a', O, n, f, bs, hs, tt.1, us, xs, rfl, S.d ha lr, fun R B A ws zs H2 k2 hR hB hA dB dA => ?_⟩
  have S2 := S.kp k2
  have hp2 := k2.at0 hp
  have ha2 := k2.t _ _ ha
  have hid2 : Kp [] H1 H2 ∧ True := ⟨k2, trivial⟩
  clear k2 S hp ha
  have lB := dB.len
  have lA := dA.len
  have lpB := prs_le (okB5 n f bs tt.1 xs) (hrB5 xs) nV xs.length
  have lpA := prs_le (okH5 n f hs tt.1 xs) (hrH5 hs xs) nV xs.length
  refine ⟨_, by wtm_at "u", ?_⟩
  refine xb_cons ?_
  -- the greatest, the least
  refine xs_set C (XE.mono (Q := fun v H' => v = oV (loW n f bs tt.1 xs) ∧ Kp [] H2 H') ?_ ?_) (hx := by wtm_at "m") (hl := by wtm_at "m")
  · refine xe_maxD C (by wtm_at "m") T.b_max ?_
    refine xe_lc C ?_
    refine xlc_L (Vs' := ["pair"]) (G' := []) (nm := "pair") (i := 18) (by assumption) ⟨rfl, by decide +kernel, by decide +kernel, rfl, by decide +kernel, by decide⟩ ?_
    wtm_at "w"
    generalize ees : prs (okB5 n f bs tt.1 xs) (hrB5 xs) nV xs.length = es at dB lB lpB
    refine ⟨B, _, rfl, Z.SqL.of' hB, fun LL H3 k3 nL hL => ⟨fun i H' => Kp [] H2 H' ∧ H' LL = some (.lst ((es.map fun e => V.int e.1).take i)), ⟨k3, hL⟩, ?_, ?_, ?_⟩⟩
    · rintro i H' _ ⟨k, _⟩
      exact Z.SqL.of' (k.at0 hB)
    · rintro i y H4 hy ⟨k4, h4⟩
      obtain ⟨e, he, TT, rfl, hT⟩ := (PrsAt.kp k4 dB).at hy
      have hs2 : (es.map fun e => V.int e.1)[i]? = some (.int e.1) := by rw [List.getElem?_map, he]; rfl
      clear k3
      refine ⟨_, by wtm_at "u", ?_⟩
      intro s0 H0 c' cl fp C'
      wtm_at "w"
      refine ⟨_, h4, szl (by rw [List.length_take, List.length_map]; omega), fun H5 k5 h5 => ⟨k4.tr1 k5 (.inr nL), ?_⟩⟩
      rw [h5, List.take_add_one, hs2]; rfl
    rintro H4 ⟨k4, h4⟩
    rw [lB, List.take_of_length_le (by rw [List.length_map]; exact Nat.le_refl _)] at h4
    have em : (es.map fun e => V.int e.1) = (es.map (·.1)).map V.int := by rw [List.map_map]; rfl
    rw [em, ← ees, prs_fst] at h4
    refine ⟨LL, _, rfl, Z.SqL.of' h4, fun e => ⟨by unfold loW; rw [e]; rfl, k4⟩, fun m m1 m2 => ⟨by unfold loW; rw [mxO_of m1 m2]; rfl, k4⟩⟩
  rintro v H3 ⟨rfl, k3⟩
  have S3 := S2.kp k3
  have hp3 := k3.at0 hp2
  have ha3 := k3.t _ _ ha2
  have hR3 := k3.at0 hR
  have hB3 := k3.at0 hB
  have hA3 := k3.at0 hA
  have dB3 := PrsAt.kp k3 dB
  have dA3 := PrsAt.kp k3 dA
  have hid3 : Kp [] H1 H3 ∧ True := ⟨hid2.1.tr0 k3, trivial⟩
  clear k3 S2 hp2 ha2 hR hB hA dB dA hid2
  refine ⟨_, by wtm_at "u", ?_⟩
  refine xb_cons ?_
  refine xs_set C (XE.mono (Q := fun v H' => v = oV (upW n f hs tt.1 xs) ∧ Kp [] H3 H') ?_ ?_) (hx := by wtm_at "m") (hl := by wtm_at "m")
  · refine xe_minD C (by wtm_at "m") T.b_min ?_
    refine xe_lc C ?_
    refine xlc_L (Vs' := ["pair"]) (G' := []) (nm := "pair") (i := 18) (by assumption) ⟨rfl, by decide +kernel, by decide +kernel, rfl, by decide +kernel, by decide⟩ ?_
    wtm_at "w"
    generalize ees : prs (okH5 n f hs tt.1 xs) (hrH5 hs xs) nV xs.length = es at dA3 lA lpA
    refine ⟨A, _, rfl, Z.SqL.of' hA3, fun LL H3' k3 nL hL => ⟨fun i H' => Kp [] H3 H' ∧ H' LL = some (.lst ((es.map fun e => V.int e.1).take i)), ⟨k3, hL⟩, ?_, ?_, ?_⟩⟩
    · rintro i H' _ ⟨k, _⟩
      exact Z.SqL.of' (k.at0 hA3)
    · rintro i y H4 hy ⟨k4, h4⟩
      obtain ⟨e, he, TT, rfl, hT⟩ := (PrsAt.kp k4 dA3).at hy
      have hs2 : (es.map fun e => V.int e.1)[i]? = some (.int e.1) := by rw [List.getElem?_map, he]; rfl
      clear k3
      refine ⟨_, by wtm_at "u", ?_⟩
      intro s0 H0 c' cl fp C'
      wtm_at "w"
      refine ⟨_, h4, szl (by rw [List.length_take, List.length_map]; omega), fun H5 k5 h5 => ⟨k4.tr1 k5 (.inr nL), ?_⟩⟩
      rw [h5, List.take_add_one, hs2]; rfl
    rintro H4 ⟨k4, h4⟩
    rw [lA, List.take_of_length_le (by rw [List.length_map]; exact Nat.le_refl _)] at h4
    have em : (es.map fun e => V.int e.1) = (es.map (·.1)).map V.int := by rw [List.map_map]; rfl
    rw [em, ← ees, prs_fst] at h4
    refine ⟨LL, _, rfl, Z.SqL.of' h4, fun e => ⟨by unfold upW; rw [e]; rfl, k4⟩, fun m m1 m2 => ⟨by unfold upW; rw [mnO_of m1 m2]; rfl, k4⟩⟩
  rintro v H4 ⟨rfl, k4⟩
  have S4 := S3.kp k4
  have hp4 := k4.at0 hp3
  have ha4 := k4.t _ _ ha3
  have hR4 := k4.at0 hR3
  have hB4 := k4.at0 hB3
  have hA4 := k4.at0 hA3
  have dB4 := PrsAt.kp k4 dB3
  have dA4 := PrsAt.kp k4 dA3
  have hid4 : Kp [] H1 H4 ∧ True := ⟨hid3.1.tr0 k4, trivial⟩
  clear k4 S3 hp3 ha3 hR3 hB3 hA3 dB3 dA3 hid3
  refine ⟨_, by wtm_at "u", ?_⟩
  refine xb_cons ?_
  wtm_at "w"
  refine ⟨z, a', L, dx, mx, dB, dH, t, n, f, bs, hs, tt.1, qs, xs, rfl, S4.win ha4 lr, fun R5 H5 k5 h5 => ?_⟩
  have S5 := S4.kp k5
  have hp5 := k5.at0 hp4
  have ha5 := k5.t _ _ ha4
  have hR5 := k5.at0 hR4
  have hB5 := k5.at0 hB4
  have hA5 := k5.at0 hA4
  have dB5 := PrsAt.kp k5 dB4
  have dA5 := PrsAt.kp k5 dA4
  have hid5 : Kp [] H1 H5 ∧ True := ⟨hid4.1.tr0 k5, trivial⟩
  clear k5 S4 hp4 ha4 hR4 hB4 hA4 dB4 dA4 hid4
  wtm_at "w"
  intro TT H6 k6 h6 _
  have S6 := S5.kp k6
  have hp6 := k6.at0 hp5
  have ha6 := k6.t _ _ ha5
  have hR6 := k6.at0 hR5
  have hB6 := k6.at0 hB5
  have hA6 := k6.at0 hA5
  have dB6 := PrsAt.kp k6 dB5
  have dA6 := PrsAt.kp k6 dA5
  have h56 := k6.tup h5
  have hid6 : Kp [] H1 H6 ∧ True := ⟨hid5.1.tr0 k6, trivial⟩
  clear k6 S5 hp5 ha5 hR5 hB5 hA5 dB5 dA5 hid5 h5
  have pl2 := pl_opt2 (loW n f bs tt.1 xs) (upW n f hs tt.1 xs)
  wtm_at "w"
  refine ⟨_, _, .tuple [oD (loW n f bs tt.1 xs), oD (upW n f hs tt.1 xs)], rfl, .tup h56 (.cons (dp_opt _) (.cons (dp_opt _) .nil)), .tup h6 (.cons (dp_opt _) (.cons (dp_opt _) .nil)), pl2.1, pl2.2, ?_⟩
  have hO6 := S6.hO
  have hL6 := S6.hL
  refine vt_bl ?_
  refine L2.iteF ?_
  wtm_at "w"
  refine ite_nd (fun e => absurd (by rw [List.length_map, lx.2, lu]) e) (fun _ => ?_)
  refine xb_nil ?_
  refine xb_cons ?_
  wtm_at "w"
  refine ⟨z, a', L, dx, mx, dB, dH, t, n, f, bs, hs, tt.1, qs, xs, rfl, S6.win ha6 lr, fun H7 k7 hcond => ?_, fun lo up i j q H7 k7 clo cup hlt fi fj li lj gi gj hq => ?_⟩
  · have hid7 : Kp [] H1 H7 ∧ True := ⟨hid6.1.tr0 k7, trivial⟩
    clear k7
    refine ⟨_, by wtm_at "u", ?_⟩
    refine xb_cons (XS.imp (nx := fun σ' H' => σ' = [some (.ref a), some (.ref b), some (.ref pm), some (.ref mx), some (.ref M), some (.ref z), some (.ref db), some (.ref hd), some (.ref p), v9, some (.ref O), v11, some (.ref L), some (.ref R), some (oV (loW n f bs tt.1 xs)), some (oV (upW n f hs tt.1 xs)), some V.non, v17, none] ∧ H' = H7) ?_ ?_)
    · wtm_at "w"
      cases clo : loW n f bs tt.1 xs with
      | none =>
        refine ite_d (fun _ => ?_) (fun e => absurd rfl e)
        refine L2.iteT ?_
        wtm_at "w"
        refine ite_nd (fun e => absurd rfl e) (fun _ => ?_)
        repeat refine xb_nil ?_
        exact ⟨rfl, rfl⟩
      | some lo =>
        refine ite_d (fun e => nomatch e) (fun _ => ?_)
        wtm_at "w"
        cases cup : upW n f hs tt.1 xs with
        | none =>
          refine ite_d (fun _ => ?_) (fun e => absurd rfl e)
          refine L2.iteT ?_
          wtm_at "w"
          refine ite_nd (fun e => absurd rfl e) (fun _ => ?_)
          repeat refine xb_nil ?_
          exact ⟨rfl, rfl⟩
        | some up =>
          refine ite_d (fun e => nomatch e) (fun _ => ?_)
          rw [show oV (some lo) = V.int lo from rfl, show oV (some up) = V.int up from rfl]
          wtm_at "w"
          refine ite_d (fun _ => ?_) (fun e => absurd (hcond lo up clo cup) e)
          wtm_at "w"
          refine ite_nd (fun e => absurd rfl e) (fun _ => ?_)
          repeat refine xb_nil ?_
          exact ⟨rfl, rfl⟩
    · rintro σ' H' ⟨rfl, rfl⟩
      repeat refine xb_nil ?_
      exact hn _ _ _ _ _ _ _ hid7.1
  · have S7 := S6.kp k7
    have hR7 := k7.at0 hR6
    have hB7 := k7.at0 hB6
    have hA7 := k7.at0 hA6
    have dB7 := PrsAt.kp k7 dB6
    have dA7 := PrsAt.kp k7 dA6
    have hid7 : Kp [] H1 H7 ∧ True := ⟨hid6.1.tr0 k7, trivial⟩
    clear k7 S6 hp6 ha6 hR6 hB6 hA6 dB6 dA6 hid6 h56 h6 hO6 hL6
    rw [clo, cup]
    rw [show oV (some lo) = V.int lo from rfl, show oV (some up) = V.int up from rfl]
    refine ⟨_, by wtm_at "u", ?_⟩
    refine xb_cons ?_
    wtm_at "w"
    refine ite_d (fun e => nomatch e) (fun _ => ?_)
    wtm_at "w"
    refine ite_d (fun e => nomatch e) (fun _ => ?_)
    wtm_at "w"
    refine ite_d (fun e => absurd e (by omega)) (fun _ => ?_)
    refine xb_cons ?_
    refine xs_set C (XE.mono (Q := fun v H' => v = .int (i : Nat) ∧ Kp [] H7 H') ?_ ?_) (hx := by wtm_at "m") (hl := by wtm_at "m")
    · wtm_at "w"
      refine xe_lc C ?_
      refine xlc_L (Vs' := ["pair", "before"]) (G' := []) (nm := "pair") (i := 18) (by assumption) ⟨rfl, by decide +kernel, by decide +kernel, rfl, by decide +kernel, by decide⟩ ?_
      wtm_at "w"
      have pf := prs_find (vl := nV) fi
      generalize ees : prs (okB5 n f bs tt.1 xs) (hrB5 xs) nV xs.length = es at dB7 lB lpB pf
      refine ⟨B, _, rfl, Z.SqL.of' hB7, fun LL H8 k8 nL hLL => ⟨fun i H' => Kp [] H7 H' ∧ H' LL = some (.lst (((es.take i).filter fun e => decide (e.1 = lo)).map (·.2))), ⟨k8, hLL⟩, ?_, ?_, ?_⟩⟩
      · rintro i H' _ ⟨k, _⟩
        exact Z.SqL.of' (k.at0 hB7)
      · rintro i y H9 hy ⟨k9, h9⟩
        obtain ⟨e, he, TT', rfl, hT⟩ := (PrsAt.kp k9 dB7).at hy
        have hid9 : Kp [] H7 H9 ∧ True := ⟨k9, trivial⟩
        clear k8 k9
        refine ⟨_, by wtm_at "u", ?_⟩
        intro s0 H0 c' cl fp C'
        wtm_at "w"
        refine ite_d (fun ht => ?_) (fun ht => ?_)
        · intro s1 H01 c1' cl1 fp1 C1'
          wtm_at "w"
          have lf := List.length_filter_le (fun e : Int × V => decide (e.1 = lo)) (es.take i)
          rw [List.length_take] at lf
          refine ⟨_, h9, szl (by rw [List.length_map]; omega), fun H10 k10 h10 => ⟨hid9.1.tr1 k10 (.inr nL), ?_⟩⟩
          rw [h10, List.take_add_one, he, List.filter_append]
          simp [ht]
        · refine ⟨hid9.1, ?_⟩
          rw [h9, List.take_add_one, he, List.filter_append]
          simp [ht]
      rintro H9 ⟨k9, h9⟩
      rw [lB, List.take_of_length_le (Nat.le_refl _)] at h9
      have h0 : ((es.filter fun e => decide (e.1 = lo)).map (·.2))[0]? = some (nV i) := by
        rw [List.getElem?_map, ← List.head?_eq_getElem?, List.head?_filter, pf]; rfl
      wtm_at "w"
      refine vx_lst (Z.SqL.of' h9) (show atI _ 0 = some (nV i) from at_nat (t := 0) h0) ?_
      exact ⟨rfl, k9⟩
    rintro v H8 ⟨rfl, k8⟩
    have S8 := S7.kp k8
    have hR8 := k8.at0 hR7
    have hA8 := k8.at0 hA7
    have dA8 := PrsAt.kp k8 dA7
    have hq8 := hq.kp k8
    have hid8 : Kp [] H1 H8 ∧ True := ⟨hid7.1.tr0 k8, trivial⟩
    clear k8 S7 hR7 hB7 hA7 dB7 dA7 hq hid7
    refine ⟨_, by wtm_at "u", ?_⟩
    refine xb_cons ?_
    refine xs_set C (XE.mono (Q := fun v H' => v = .int (j : Nat) ∧ Kp [] H8 H') ?_ ?_) (hx := by wtm_at "m") (hl := by wtm_at "m")
    · wtm_at "w"
      refine xe_lc C ?_
      refine xlc_L (Vs' := ["pair", "after"]) (G' := []) (nm := "pair") (i := 18) (by assumption) ⟨rfl, by decide +kernel, by decide +kernel, rfl, by decide +kernel, by decide⟩ ?_
      wtm_at "w"
      have pf := prs_find (vl := nV) fj
      generalize ees : prs (okH5 n f hs tt.1 xs) (hrH5 hs xs) nV xs.length = es at dA8 lA lpA pf
      refine ⟨A, _, rfl, Z.SqL.of' hA8, fun LL H8' k8 nL hLL => ⟨fun i H' => Kp [] H8 H' ∧ H' LL = some (.lst (((es.take i).filter fun e => decide (e.1 = up)).map (·.2))), ⟨k8, hLL⟩, ?_, ?_, ?_⟩⟩
      · rintro i H' _ ⟨k, _⟩
        exact Z.SqL.of' (k.at0 hA8)
      · rintro i y H9 hy ⟨k9, h9⟩
        obtain ⟨e, he, TT', rfl, hT⟩ := (PrsAt.kp k9 dA8).at hy
        have hid9 : Kp [] H8 H9 ∧ True := ⟨k9, trivial⟩
        clear k8 k9
        refine ⟨_, by wtm_at "u", ?_⟩
        intro s0 H0 c' cl fp C'
        wtm_at "w"
        refine ite_d (fun ht => ?_) (fun ht => ?_)
        · intro s1 H01 c1' cl1 fp1 C1'
          wtm_at "w"
          have lf := List.length_filter_le (fun e : Int × V => decide (e.1 = up)) (es.take i)
          rw [List.length_take] at lf
          refine ⟨_, h9, szl (by rw [List.length_map]; omega), fun H10 k10 h10 => ⟨hid9.1.tr1 k10 (.inr nL), ?_⟩⟩
          rw [h10, List.take_add_one, he, List.filter_append]
          simp [ht]
        · refine ⟨hid9.1, ?_⟩
          rw [h9, List.take_add_one, he, List.filter_append]
          simp [ht]
      rintro H9 ⟨k9, h9⟩
      rw [lA, List.take_of_length_le (Nat.le_refl _)] at h9
      have h0 : ((es.filter fun e => decide (e.1 = up)).map (·.2))[0]? = some (nV j) := by
        rw [List.getElem?_map, ← List.head?_eq_getElem?, List.head?_filter, pf]; rfl
      wtm_at "w"
      refine vx_lst (Z.SqL.of' h9) (show atI _ 0 = some (nV j) from at_nat (t := 0) h0) ?_
      exact ⟨rfl, k9⟩
    rintro v H9 ⟨rfl, k9⟩
    have S9 := S8.kp k9
    have hq9 := hq8.kp k9
    have hid9 : Kp [] H1 H9 ∧ True := ⟨hid8.1.tr0 k9, trivial⟩
    clear k9 S8 hR8 hA8 dA8 hq8 hid8
    refine ⟨_, by wtm_at "u", ?_⟩
    -- the two papers shown
    obtain ⟨x, hxi, sox, okx⟩ := S9.hs.at (i := i) (List.getElem?_eq_getElem (by omega))
    obtain ⟨y, hyj, soy, oky⟩ := S9.hs.at (i := j) (List.getElem?_eq_getElem (by omega))
    obtain ⟨sa, esa, sx, vx, a1, a2, a3, a4⟩ := sox.sh
    obtain ⟨sb, esb, sy, vy, c1, c2, c3, c4⟩ := soy.sh
    have hui : us[i]? = some (.ref sa) := by rw [List.getElem?_eq_getElem (by omega), esa]
    have huj : us[j]? = some (.ref sb) := by rw [List.getElem?_eq_getElem (by omega), esb]
    have gx : xs.getD i d5 = x := getD_of hxi
    have gy : xs.getD j d5 = y := getD_of hyj
    rw [gx, gy] at hq9
    unfold okB5 at gi
    unfold okH5 at gj
    rw [gx] at gi
    rw [gy] at gj
    simp only [Bool.and_eq_true, decide_eq_true_eq] at gi gj
    obtain ⟨gi1, gi2, gi3⟩ := gi
    obtain ⟨gj1, gj2, gj3⟩ := gj
    have pfx : papFault n f x.2.1 (ss5 x) = none := of_decide_eq_true gi3
    have pfy : papFault n f tt.1 (ss5 y) = none := by rw [← gj2]; exact of_decide_eq_true gj3
    have pfj : papFault n f x.2.1 (ss5 x ++ ss5 y) = none := pf_join pfx gi2 pfy okx.th
    have roj : ∀ s ∈ ss5 x ++ ss5 y, RowOk s.1 := fun s m => (List.mem_append.mp m).elim (okx.ro s) (oky.ro s)
    have soj : ∀ s ∈ ss5 x ++ ss5 y, SOk s := (pf_okW pfj).sok roj
    have lj1 : (ss5 x).length ≤ 20 := by unfold ss5; rw [List.length_map]; exact okx.ls
    have lj2 : (ss5 y).length ≤ 20 := by unfold ss5; rw [List.length_map]; exact oky.ls
    have plj := pl_steps4 soj (by rw [List.length_append]; omega)
    have lvx : vx.length ≤ 20 := by rw [a3.len]; exact okx.ls
    have lvy : vy.length ≤ 20 := by rw [c3.len]; exact oky.ls
    obtain ⟨dq, fq, stq, vq, q1, q2, q3, q4⟩ := id hq9
    clear sox soy esa esb gx gy hxi hyj
    refine xb_cons ?_
    have hO9 := S9.hO
    wtm_at "w"
    refine ite_d (fun e => nomatch e) (fun _ => ?_)
    wtm_at "w"
    refine xe_fld ?_
    wtm_at "w"
    refine ⟨q, _, dq, _, _, rfl, q1, T.cl_Paper, T.na_Paper_first, pap_f _ _, ?_⟩
    wtm_at "w"
    refine vx_lst (Z.SqL.of' hO9) (at_nat hui) ?_
    wtm_at "w"
    refine vo_neT C q4 (Z.SqT.of' a4) ?_
    rw [decide_eq_true rfl]
    wtm_at "w"
    refine xe_fld ?_
    wtm_at "w"
    refine ⟨q, _, dq, _, _, rfl, q1, T.cl_Paper, T.na_Paper_steps, pap_s _ _, ?_⟩
    wtm_at "w"
    refine vx_lst (Z.SqL.of' hO9) (at_nat hui) ?_
    wtm_at "w"
    refine vx_lst (Z.SqL.of' hO9) (at_nat huj) ?_
    wtm_at "w"
    refine vo_catL a2 c2 (sz_ (by omega)) (fun LL H10 k10 n10 h10 => ?_)
    have hq10 := hq9.kp k10
    have S10 := S9.kp k10
    have dcat := dpAll_app (dpAll_kp k10 a3.dp) (dpAll_kp k10 c3.dp)
    rw [← List.map_append] at dcat
    have q210 := k10.at0 q2
    have q310 := dpAll_kp k10 q3
    have hid10 : Kp [] H1 H10 ∧ True := ⟨hid9.1.tr0 k10, trivial⟩
    clear k10 hq9 S9 q1 q2 q3 q4 a1 a2 a3 a4 c1 c2 c3 c4 hO9 hid9
    wtm_at "w"
    refine ⟨_, _, .list ((ss5 x ++ ss5 y).map stpD), rfl, .lst (Z.SqL.of' q210) q310, .lst (Z.SqL.of' h10) dcat, plj.1, plj.2, ?_⟩
    refine vt_bl ?_
    refine L2.iteF ?_
    refine xb_nil ?_
    refine xb_cons ?_
    wtm_at "w"
    refine ⟨mx, q, n, f, x.2.1, ss5 x ++ ss5 y, rfl, S10.s.s.nb.hx, S10.hn, hq10, roj, fun H11 k11 => ?_⟩
    rw [decide_eq_true pfj]
    wtm_at "w"
    refine ite_nd (fun e => absurd rfl e) (fun _ => ?_)
    repeat refine xb_nil ?_
    exact hn _ _ _ _ _ _ _ (hid10.1.tr0 k11)
end
/-! law -/
section
local macro_rules | `(tactic| wtm_at "d") => `(tactic| first | ((with_reducible show Z.XE _ (PySem.Expr.Call (PySem.Expr.Name "len" _) (_ :: _) [] _) _ _ _); refine Z.xe_callB (id := "len") (by assumption) (by wtm_at "m") T.b_len (by decide +kernel) ?_) | ((with_reducible show Z.XE _ (PySem.Expr.Call (PySem.Expr.Name "max" _) (_ :: _) [] _) _ _ _); refine Z.xe_callB (id := "max") (by assumption) (by wtm_at "m") T.b_max (by decide +kernel) ?_) | ((with_reducible show Z.XE _ (PySem.Expr.Call (PySem.Expr.Name "min" _) (_ :: _) [] _) _ _ _); refine Z.xe_callB (id := "min") (by assumption) (by wtm_at "m") T.b_min (by decide +kernel) ?_) | ((with_reducible show Z.XE _ (PySem.Expr.Call (PySem.Expr.Name "is_accepted" _) (_ :: _) [] _) _ _ _); refine Z.xe_call (by assumption) (Law.ok_is_accepted T) (by wtm_at "m") (by omega) ?_) | ((with_reducible show Z.XE _ (PySem.Expr.Call (PySem.Expr.Name "window" _) (_ :: _) [] _) _ _ _); refine Z.xe_call (by assumption) (Law.ok_window T) (by wtm_at "m") (by omega) ?_) | ((with_reducible show Z.XE _ (PySem.Expr.Call (PySem.Expr.Name "foretold" _) (_ :: _) [] _) _ _ _); refine Z.xe_call (by assumption) (Law.ok_foretold T) (by wtm_at "m") (by omega) ?_) | ((with_reducible show Z.XE _ (PySem.Expr.Call (PySem.Expr.Name "_law_row" _) (_ :: _) [] _) _ _ _); refine Z.xe_call (by assumption) (Law.ok__law_row T) (by wtm_at "m") (by omega) ?_) | ((with_reducible show Z.XE _ (PySem.Expr.Call (PySem.Expr.Name "_law_draw" _) (_ :: _) [] _) _ _ _); refine Z.xe_call (by assumption) (Law.ok__law_draw T) (by wtm_at "m") (by omega) ?_) | ((with_reducible show Z.XE _ (PySem.Expr.Call (PySem.Expr.Name "_law_same" _) (_ :: _) [] _) _ _ _); refine Z.xe_call (by assumption) (Law.ok__law_same T) (by wtm_at "m") (by omega) ?_) | ((with_reducible show Z.XE _ (PySem.Expr.Call (PySem.Expr.Name "_law_mix" _) (_ :: _) [] _) _ _ _); refine Z.xe_call (by assumption) (Law.ok__law_mix T) (by wtm_at "m") (by omega) ?_) | ((with_reducible show Z.XE _ (PySem.Expr.Call (PySem.Expr.Name "_law_things" _) (_ :: _) [] _) _ _ _); refine Z.xe_call (by assumption) (Law.ok__law_things T) (by wtm_at "m") (by omega) ?_) | ((with_reducible show Z.XE _ (PySem.Expr.Call (PySem.Expr.Name "_law_paper" _) (_ :: _) [] _) _ _ _); refine Z.xe_call (by assumption) (Law.ok__law_paper T) (by wtm_at "m") (by omega) ?_) | ((with_reducible show Z.XE _ (PySem.Expr.Call (PySem.Expr.Name "_law_papers" _) (_ :: _) [] _) _ _ _); refine Z.xe_call (by assumption) (Law.ok__law_papers T) (by wtm_at "m") (by omega) ?_) | ((with_reducible show Z.XE _ (PySem.Expr.Call (PySem.Expr.Name "_law_due_parts" _) (_ :: _) [] _) _ _ _); refine Z.xe_call (by assumption) (Law.ok__law_due_parts T) (by wtm_at "m") (by omega) ?_) | ((with_reducible show Z.XE _ (PySem.Expr.Call (PySem.Expr.Name "Mixing" _) (_ :: _) [] _) _ _ _); refine Z.xe_make (by assumption) (Law.ok_Mixing T) (by wtm_at "m") (by omega) ?_) | ((with_reducible show Z.XE _ (PySem.Expr.Call (PySem.Expr.Name "Notebook" _) (_ :: _) [] _) _ _ _); refine Z.xe_make (by assumption) (Law.ok_Notebook T) (by wtm_at "m") (by omega) ?_) | fail)
theorem fn_law {f : Addr} {fd : FuncData} (T : Txt P w K mg base) (F : Fun K "law" "law" s_law f fd) : FnOk P w K mg base CX0 30 f fd ["script"] (sp_law K) := by
  refine fnOk_by F sc_law oc_law (fun vs H Q E h => ?_) (fun X e1 e2 e3 e4 e5 C H vs Q E h => ?_)
  · obtain ⟨a, ns, rfl, _⟩ := h; rfl
  · obtain ⟨a, ns, rfl, hS, hl, q⟩ := h
    subst e1; subst e2; subst e3; subst e4; subst e5
    simp only [st0]
    refine xb_cons ?_
    wtm_at "w"
    refine ⟨a, ns, 0, 50, rfl, hS, by decide, by decide, by decide, by decide, fun r H1 rs k1 nr hr hrs => ?_⟩
    wtm_at "w"
    intro b H2 k2 nb hb
    have bx : Box H2 b r := ⟨0, rs, hb, by decide, k2.at0 hr⟩
    clear k1 k2
    wtm_at "w"
    refine ⟨b, r, rfl, bx, fun pm n f H3 k3 b3 npm hpm n2 f2 => ?_⟩
    have m3' : H3 pm = some (.lst [.int n, .int f]) := hpm
    have n0 : 0 < n := by omega
    clear k3 bx hb hr
    wtm_at "w"
    intro mx dm nz nd nne
    refine ⟨mx, dm, n, f, rfl, upd_same, fun H4 k4 hz => ⟨rfl, ?_⟩⟩
    have k34 : Kp [] H3 H4 := (Kp.made nz nd nne).tr1 k4 (.inr nz)
    have hx4 : Mx T.C_Mixing H4 mx n f := hz
    have b4 := b3.kp k34
    have m4 := k34.at0 hpm
    clear k4 k34 hz nz nd nne hpm m3' b3
    wtm_at "w"
    refine ⟨b, r, 11, rfl, b4, by decide, fun d H5 d0 d1 k5 b5 => ?_⟩
    have m5 := k5.at1 (b4.neInts m4) m4
    have hx5 := hx4.box b4 k5
    obtain ⟨c, rfl⟩ := Int.eq_ofNat_of_zero_le d0
    clear k5 m4 b4 hx4
    wtm_at "w"
    rw [show 4 + (c : Int) = ((4 + c : Nat) : Int) by omega]
    refine ⟨b, r, pm, n, f, 4 + c, rfl, b5, m5, by omega, by omega, fun M ps ts H6 k6 b6 nM hM hT lp => ?_⟩
    have m6 := k6.at1 (b5.neInts m5) m5
    have hx6 := hx5.box b5 k6
    clear k6 m5 b5 hx5
    wtm_at "w"
    intro z dx nz2 nd2 nne2
    refine ⟨z, dx, mx, rfl, upd_same, fun dB dH H7 k7 hz2 hB hH BH nB nH => ⟨rfl, ?_⟩⟩
    have k67 : Kp [] H6 H7 := (Kp.made nz2 nd2 nne2).tr1 k7 (.inr nz2)
    have hmx : mx ≠ z := hx6.nl nz2
    have nb7 : NbAt T.C_Notebook T.C_Mixing H7 z dx mx dB dH 0 n f [] [] := ⟨hz2, hx6.kp k67, ⟨[], hB, Nat.le_refl _, fun r => by simp [valV_nil]⟩, hH, BH, hmx⟩
    have m7 := k67.at0 m6
    have M7 := k67.at0 hM
    have T7 := hT.kp k67
    have b7 := b6.kp k67
    clear k7 k67 m6 hM hT b6 nz2 nd2 nne2 hz2 hB hH hx6
    wtm_at "w"
    refine xe_dnewT (fun db H8 k8 ndb hdb => ?_)
    have n3 : db ≠ dB := by
      obtain ⟨kb, e, _⟩ := nb7.hB
      exact (ne_of_none e ndb).symm
    have n4 : db ≠ dH := (ne_of_none nb7.hH ndb).symm
    have nb8 := car k8 nb7
    have m8 := k8.at0 m7
    have M8 := k8.at0 M7
    have T8 := T7.kp k8
    have b8 := b7.kp k8
    clear k8 nb7 m7 M7 T7 b7
    wtm_at "w"
    refine xe_dnewT (fun hd H9 k9 nhd hhd => ?_)
    have n1 : hd ≠ dB := by
      obtain ⟨kb, e, _⟩ := nb8.hB
      exact (ne_of_none e nhd).symm
    have n2' : hd ≠ dH := (ne_of_none nb8.hH nhd).symm
    have n5 : db ≠ hd := ne_of_none hdb nhd
    have s9 : S55 X.K T.C_Notebook T.C_Mixing H9 b r pm M z dx mx dB dH db hd 0 n f ps ts [] [] := ⟨⟨b8.kp k9, k9.at0 m8, k9.at0 M8, T8.kp k9, car k9 nb8, hhd, n1, n2'⟩, ⟨[], k9.at0 hdb, Nat.le_refl _, fun r => by simp [valV_nil]⟩, n3, n4, n5, fun r m => nomatch m⟩
    clear k9 m8 M8 T8 b8 nb8 hdb hhd
    have p0 : 0 < ps.length := by omega
    have p60 : ps.length ≤ 60 := by omega
    wtm_at "w"
    refine xs_forL C ?_
    wtm_at "w"
    refine ⟨M, _, rfl, Z.SqL.of' s9.s.hM, fun i σ H' => ∃ (v8 : Option V) (bs : List (List Int)), σ = [some (.ref a), some (.ref b), some (.ref pm), some (.ref mx), some (.ref M), some (.ref z), some (.ref db), some (.ref hd), v8, none, none, none, none, none, none, none, none, none, none] ∧ bs.length ≤ i ∧ S55 X.K T.C_Notebook T.C_Mixing H' b r pm M z dx mx dB dH db hd 0 n f ps ts bs [], ⟨_, [], rfl, by decide, s9⟩, ?_, ?_, ?_⟩
    · rintro i σ' H' _ ⟨v8, bs, rfl, lb, s⟩
      exact Z.SqL.of' s.s.hM
    · rintro i y σ' H10 hy ⟨v8, bs, rfl, lb, s10⟩
      have hi := (List.getElem?_eq_some_iff.mp hy).1
      rw [List.length_map] at hi
      obtain ⟨p, tt, rfl, hp, ht, a', e', g1, g2, g3, g4⟩ := s10.s.th.at hy
      have l0 := g4.pos0
      clear s9
      wtm_at "w"
      refine vx_tup (Z.SqT.of' g2) (at_getD 0 l0) ?_
      wtm_at "w"
      refine ite_d (fun h1 => ?_) (fun h1 => ?_)
      · have bx10 := s10.s.bx
        wtm_at "w"
        refine ⟨b, r, 4, rfl, bx10, by decide, fun u H11 _ _ k11 b11 => ?_⟩
        have s11 := s10.draw k11 b11
        have g11 := k11.at1 (s10.s.bx.neRefs (as := [a', e']) g1) g1
        have g21 := k11.t _ _ g2
        clear k11 s10 g1 g2 g3 bx10
        wtm_at "w"
        refine ite_d (fun _ => ?_) (fun _ => ?_)
        · refine xb_cons ?_
          refine xs_expr ?_
          refine xe_methX C (ok_note T) takes0 T.cl_Notebook (by omega) ?_
          wtm_at "w"
          have w0 : noteWhy tt.1 = none := by unfold noteWhy; rw [g4.thing, decide_eq_true h1]; rfl
          refine ⟨z, dx, _, rfl, s11.s.nb.ha, nb_no mx dB dH 0 (by decide +kernel) (by decide +kernel) (by decide +kernel) (by decide +kernel), ?_⟩
          wtm_at "w"
          refine ⟨z, a', dx, mx, dB, dH, 0, n, f, bs, [], tt.1, rfl, s11.s.nb, g21, by omega, fun w' hw' => absurd (hw'.symm.trans w0) (by simp), fun _ H12 k12 nb12 => ?_⟩
          obtain ⟨kb, hk, lk, ik⟩ := s11.hb
          have g12 := k12.at1 (fun e => by obtain ⟨kb', eB, _⟩ := s11.s.nb.hB; rw [e, eB] at g11; cases g11) g11
          have g22 := k12.t _ _ g21
          have hk12 := k12.at1 s11.n3 hk
          refine xb_cons ?_
          refine xs_dputT C ?_
          wtm_at "w"
          refine ⟨db, a', kb, keyOf tt.1, rfl, rfl, hk12, by rw [keyOf_kV]; exact g22, szl (by omega), fun H13 k13 h13 => ?_⟩
          have s13 := s11.note k12 nb12 (g4.two_len h1) hk lk ik k13 h13
          repeat refine xb_nil ?_
          exact ⟨_, bs ++ [tt.1], rfl, by simp; omega, s13⟩
        · repeat refine xb_nil ?_
          exact ⟨_, bs, rfl, by omega, s11⟩
      · wtm_at "w"
        repeat refine xb_nil ?_
        exact ⟨_, bs, rfl, by omega, s10⟩
    rintro σ' H10 ⟨v8, bs, rfl, lb, s10⟩
    rw [List.length_map] at lb
    clear s9
    have M10 := s10.s.hM
    refine xb_cons ?_
    refine xs_forR1 C (by wtm_at "m") T.b_range ?_
    wtm_at "w"
    rw [List.length_map]
    refine ⟨ps.length, rfl, by omega, by omega, fun i σ H' => ∃ (v8 v9 : Option V) (t : Int) (hs : List (List Int × Int)), σ = [some (.ref a), some (.ref b), some (.ref pm), some (.ref mx), some (.ref M), some (.ref z), some (.ref db), some (.ref hd), v8, v9, none, none, none, none, none, none, none, none, none] ∧ t ≤ i ∧ hs.length ≤ i ∧ S55 X.K T.C_Notebook T.C_Mixing H' b r pm M z dx mx dB dH db hd t n f ps ts bs hs, ⟨_, _, 0, [], rfl, by decide, by decide, s10⟩, ?_, ?_⟩
    · rintro i σ' H11 hi ⟨v8, v9, t, hs, rfl, ti, lh, s11⟩
      have hi' : i < ps.length := by omega
      have M11 := s11.s.hM
      have bx11 := s11.s.bx
      clear s10 M10
      wtm_at "w"
      refine ⟨b, r, _, rfl, bx11, by rw [List.length_map]; omega, fun v H12 v0 v1 k12 b12 => ?_⟩
      have s12 := s11.draw k12 b12
      clear k12 s11 M11 bx11
      rw [List.length_map] at v1
      obtain ⟨j, rfl⟩ := Int.eq_ofNat_of_zero_le v0
      have hj : j < ps.length := by omega
      have hy : (ps.map V.ref)[j]? = some (.ref ps[j]) := by rw [List.getElem?_map, List.getElem?_eq_getElem hj]; rfl
      obtain ⟨p, tt, e1, hp, ht, a', e', g1, g2, g3, g4⟩ := s12.s.th.at hy
      have l0 := g4.pos0
      rw [e1] at hy
      refine vx_lst (Z.SqL.of' s12.s.hM) (at_nat hy) ?_
      have bx12 := s12.s.bx
      wtm_at "w"
      refine vx_tup (Z.SqT.of' g2) (at_getD 0 l0) ?_
      wtm_at "w"
      refine ite_d (fun h4 => ?_) (fun h4 => ?_)
      · wtm_at "w"
        refine ⟨b, r, 4, rfl, bx12, by decide, fun u H13 _ _ k13 b13 => ?_⟩
        have s13 := s12.draw k13 b13
        have g13 := k13.at1 (s12.s.bx.neRefs (as := [a', e']) g1) g1
        have g23 := k13.t _ _ g2
        clear k13 s12 g1 g2 g3 bx12 hy
        wtm_at "w"
        refine ite_d (fun _ => ?_) (fun _ => ?_)
        · refine xb_cons ?_
          refine xs_expr ?_
          refine xe_methX C (ok_see T) takes0 T.cl_Notebook (by omega) ?_
          wtm_at "w"
          have w0 : seeWhy tt.1 i t = none := by unfold seeWhy; rw [g4.thing, decide_eq_true h4, if_pos (by rfl), if_neg (by omega)]
          refine ⟨z, dx, _, rfl, s13.s.nb.ha, nb_no mx dB dH t (by decide +kernel) (by decide +kernel) (by decide +kernel) (by decide +kernel), ?_⟩
          wtm_at "w"
          refine ⟨z, a', dx, mx, dB, dH, t, n, f, i, bs, hs, tt.1, rfl, s13.s.nb, g23, by omega, fun w' hw' => absurd (hw'.symm.trans w0) (by simp), fun _ H14 k14 nb14 => ?_⟩
          have zd : z ≠ db := by
            obtain ⟨kb, hk, _⟩ := s13.hb
            exact ne_of s13.s.nb.ha hk (by intro z; cases z)
          have zh : hd ≠ z := ne_of s13.s.hh s13.s.nb.ha (by intro z; cases z)
          have hA : ∀ l ∈ [z, dH], (∃ o, H13 l = some o ∧ ∀ ys, o ≠ .lst ys) ∧ l ≠ db := by
            intro l m
            simp only [List.mem_cons, List.not_mem_nil, or_false] at m
            rcases m with rfl | rfl
            · exact ⟨⟨_, s13.s.nb.ha, fun ys z => nomatch z⟩, zd⟩
            · exact ⟨⟨_, s13.s.nb.hH, fun ys z => nomatch z⟩, Ne.symm s13.n4⟩
          have hh14 : H14 hd = some (.dT (kvH hs)) := k14.at (by simp [zh, s13.s.n2]) s13.s.hh
          have g14 := k14.at (fun m => by
            simp only [List.mem_cons, List.not_mem_nil, or_false] at m
            rcases m with e | e
            · have := s13.s.nb.ha; rw [← e, g13] at this; cases this
            · have := s13.s.nb.hH; rw [← e, g13] at this; cases this) g13
          have g24 := k14.t _ _ g23
          refine xb_cons ?_
          wtm_at "w"
          refine vo_notInD C (.inr ⟨_, keyOf tt.1, a', .inl hh14, rfl, by rw [keyOf_kV]; exact g24, rfl⟩) ?_
          rw [valV_kvH]
          refine ex_bl ?_
          have ls := seeR_len hs tt.1 i
          cases hl : lkR hs tt.1 with
          | some y =>
            refine L2.iteF ?_
            have es : seeR hs tt.1 i = hs := by unfold seeR; rw [if_neg (by rw [hl]; simp)]
            rw [es] at nb14
            have s14 := s13.saw k14 hA nb14 hh14
            repeat refine xb_nil ?_
            exact ⟨_, _, i, hs, rfl, by omega, by omega, s14⟩
          | none =>
            refine L2.iteT ?_
            have es : seeR hs tt.1 i = hs ++ [(tt.1, (i : Int))] := by unfold seeR; rw [if_pos hl]
            refine xb_cons ?_
            refine xs_dputT C ?_
            wtm_at "w"
            refine ⟨hd, a', kvH hs, keyOf tt.1, rfl, rfl, hh14, by rw [keyOf_kV]; exact g24, szl (by unfold kvH; rw [List.length_map]; omega), fun H15 k15 h15 => ?_⟩
            rw [putK_new _ (by rw [valV_kvH, hl]; rfl), ← kvH_app, ← es] at h15
            have nb15 := nb14.dt hh14 k15 (Ne.symm s13.s.n1) (Ne.symm s13.s.n2)
            have k35 : Kp [z, dH, hd] H13 H15 := (k14.wk (fun l m => by simp at m; rcases m with m | m <;> simp [m])).tr1 k15 (.inl (by simp))
            have hA2 : ∀ l ∈ [z, dH, hd], (∃ o, H13 l = some o ∧ ∀ ys, o ≠ .lst ys) ∧ l ≠ db := by
              intro l m
              simp only [List.mem_cons, List.not_mem_nil, or_false] at m
              rcases m with rfl | rfl | rfl
              · exact hA _ (by simp)
              · exact hA _ (by simp)
              · exact ⟨⟨_, s13.s.hh, fun ys z => nomatch z⟩, Ne.symm s13.n5⟩
            have s15 := s13.saw k35 hA2 nb15 h15
            repeat refine xb_nil ?_
            exact ⟨_, _, i, _, rfl, by omega, by omega, s15⟩
        · repeat refine xb_nil ?_
          exact ⟨_, _, t, hs, rfl, by omega, by omega, s13⟩
      · wtm_at "w"
        repeat refine xb_nil ?_
        exact ⟨_, _, t, hs, rfl, by omega, by omega, s12⟩
    rintro σ' H11 ⟨v8, v9, t, hs, rfl, ti, lh, s11⟩
    clear s10 M10
    have M11 := s11.s.hM
    have bx11 := s11.s.bx
    refine xb_cons ?_
    wtm_at "w"
    refine ⟨b, r, _, rfl, bx11, by rw [List.length_map]; omega, fun v H12 v0 v1 k12 b12 => ?_⟩
    have s12 := s11.draw k12 b12
    clear k12 s11 M11 bx11
    rw [List.length_map] at v1
    obtain ⟨j, rfl⟩ := Int.eq_ofNat_of_zero_le v0
    have hj : j < ps.length := by omega
    have hy : (ps.map V.ref)[j]? = some (.ref ps[j]) := by rw [List.getElem?_map, List.getElem?_eq_getElem hj]; rfl
    obtain ⟨p, tt, e1, hp, ht, a', e', g1, g2, g3, g4⟩ := s12.s.th.at hy
    rw [e1] at hy
    refine vx_lst (Z.SqL.of' s12.s.hM) (at_nat hy) ?_
    wtm_at "w"
    refine ⟨b, r, pm, M, a', n, f, ps, ts, tt.1, rfl, s12.s.bx, s12.s.hm, n0, s12.s.hM, s12.s.th, p0, p60, g2, g4.thing, g4.len, fun O us xs H13 k13 b13 nO hO dO lu => ?_⟩
    have s13 := s12.draw k13 b13
    clear k13 s12 g1 g2 g3 hy b12
    have lx := dO.len
    refine ⟨_, by wtm_at "u", ?_⟩
    refine xb_cons ?_
    refine xs_setLc C (by wtm_at "m") (by decide +kernel) rfl (by decide +kernel) ?_
    refine xlc_L (Vs' := ["one"]) (G' := ["_law_paper"]) (nm := "one") (i := 11) (by assumption) ⟨rfl, by decide +kernel, by decide +kernel, rfl, by decide +kernel, by decide⟩ ?_
    wtm_at "w"
    refine ⟨O, us, rfl, Z.SqL.of' hO, fun L H14 k14 nL hL => ⟨fun i H' => Kp [] H13 H' ∧ ∃ qs : List Addr, H' L = some (.lst (qs.map V.ref)) ∧ PpsO X.K T.C_Paper L H' qs (xs.take i), ⟨k14, [], hL, .nil⟩, ?_, ?_, ?_⟩⟩
    · rintro i H' _ ⟨k, _⟩
      exact Z.SqL.of' (k.at0 hO)
    · rintro i y H15 hi ⟨k15, qs, hq, dq⟩
      have hil := (List.getElem?_eq_some_iff.mp hi).1
      obtain ⟨x, hxi, so, ok⟩ := (dO.kp k15).at hi
      obtain ⟨sa, rfl, st, vs, a1, a2, a3, a4⟩ := so.sh
      have hid15 : Kp [] H13 H15 ∧ True := ⟨k15, trivial⟩
      have lq := dq.1
      rw [List.length_take] at lq
      clear k14 k15 so
      refine ⟨_, by wtm_at "u", ?_⟩
      intro s0 H0 c' cl fp C'
      wtm_at "w"
      refine ⟨x.1, st, x.2.1, vs, x.2.2, rfl, a4, a2, a3, fun p' H16 k16 hp' => ?_⟩
      refine ⟨_, k16.at0 hq, szl (by rw [List.length_map]; omega), fun H17 k17 h17 => ⟨(hid15.1.tr0 k16).tr1 k17 (.inr nL), qs ++ [p'], by rw [h17, List.map_append]; rfl, ?_⟩⟩
      obtain ⟨dx', st', vs', z1, z2, z3, z4, z5⟩ := hp'
      have sL : st' ≠ L := (ne_of_none hq z5).symm
      have hL16 := k16.at0 hq
      rw [List.take_add_one, hxi]
      exact ((dq.kp k16).set k17 hL16).snoc ⟨dx', st', vs', k17.at1 (ne_of z1 hL16 (by intro z; cases z)) z1, k17.at1 sL z2, z3.kp k17, k17.t _ _ z4, sL⟩ ok
    rintro H15 ⟨k15, qs, hq, dq⟩
    rw [lx, List.take_length] at dq
    have R15 : R55 X.K T.C_Notebook T.C_Mixing T.C_Paper H15 b r pm M z dx mx dB dH db hd O L t n f ps ts bs hs us qs xs := ⟨s13.kp k15, k15.at0 hO, dO.kp k15, hq, dq.at, lu, n0⟩
    clear k15 s13 hO dO hq dq b13
    refine ⟨_, by wtm_at "u", ?_⟩
    refine xb_cons ?_
    refine xs_forL C ?_
    wtm_at "w"
    refine ⟨M, _, rfl, Z.SqL.of' R15.s.s.hM, fun i σ H' => ∃ (v8 v11 v13 v14 v15 v16 v17 : Option V), σ = [some (.ref a), some (.ref b), some (.ref pm), some (.ref mx), some (.ref M), some (.ref z), some (.ref db), some (.ref hd), v8, v9, some (.ref O), v11, some (.ref L), v13, v14, v15, v16, v17, none] ∧ Kp [] H15 H', ⟨_, _, _, _, _, _, _, rfl, Kp.refl _ _⟩, ?_, ?_, ?_⟩
    · rintro i σ' H' _ ⟨v8, v11, v13, v14, v15, v16, v17, rfl, k⟩
      exact Z.SqL.of' (k.at0 R15.s.s.hM)
    · rintro i y σ' H16 hy ⟨v8, v11, v13, v14, v15, v16, v17, rfl, k16⟩
      have R16 := R15.kp k16
      obtain ⟨p, tt, rfl, hp, ht, a', e', g1, g2, g3, g4⟩ := R16.s.s.th.at hy
      refine xg_name C (by wtm_at "m") (by wtm_at "m") ?_
      refine ⟨_, by wtm_at "u", ?_⟩
      refine k55_turn T C rfl rfl rfl rfl rfl a b r pm M z dx mx dB dH db hd O L p a' e' t n f ps ts bs hs us qs xs tt _ _ _ _ _ _ _ H16 R16 g1 g2 g4 (fun v11 v13 v14 v15 v16 v17 H' k => ?_)
      exact ⟨_, _, _, _, _, _, _, rfl, k16.tr0 k⟩
    · rintro σ' H16 ⟨v8, v11, v13, v14, v15, v16, v17, rfl, k16⟩
      wtm_at "w"
      exact q _
end
/-! the end -/
theorem all_mk {l : PySem.W.OpenLaw} {w : World} {K : PySem.W.Frag} {h : Heap} {mg : Str → Option Value} {fa f_digest f__mixed f_is_thing f__is_document f__is_head f_is_thing_of f_kind_of f__back_count f__greatest_step f__first_count f_turns f_climb f__nodes_up f_listed f_has_place f_held_at f_holds f_is_right_round f_is_accepted f__first_fault f__fault_of_step f_rows_of f_joined f_window f_foretold f__window_of f__from_beacons f__to_heads f__first_of_hour f__law_cell f__law_row f__law_draw f__law_is_integer f__law_same f__law_mix f__law_digest f__law_half f__law_root f__law_way f__law_backs f__law_pool f__law_pick f__law_head f__law_thing f__law_things f__law_places f__law_walk f__law_paper f__law_papers f__law_last f__law_due_parts f_law f_Mixing___init__ f_Paper___init__ f_Notebook___init__ f_Notebook_note f_Notebook_see f_Notebook_has_noted f_Notebook_seen f_NotebookError___init__ C_Mixing C_Paper C_Notebook E_SealError E_NotebookError : Addr} (X : K.In h) (G : h.Ns mainGlobals mg) (hfa : mg "law" = some (.ref fa))
    {nm_NotebookError q_NotebookError : Str} {N_NotebookError : Addr} {bs_NotebookError : List Value} {sn_NotebookError : List Str} {sub_NotebookError : List Value} {ab_NotebookError : Bool} {col_NotebookError : Option Bool} {dd_NotebookError : Option Addr} {m0_NotebookError m1_NotebookError m2_NotebookError m3_NotebookError m5_NotebookError : Option Value}
    {od_digest an_digest od__mixed an__mixed od_is_thing an_is_thing od__is_document an__is_document od__is_head an__is_head od_is_thing_of an_is_thing_of od_kind_of an_kind_of od__back_count an__back_count od__greatest_step an__greatest_step od__first_count an__first_count od_turns an_turns od_climb an_climb od__nodes_up an__nodes_up od_listed an_listed od_has_place an_has_place od_held_at an_held_at od_holds an_holds od_is_right_round an_is_right_round od_is_accepted an_is_accepted od__first_fault an__first_fault od__fault_of_step an__fault_of_step od_rows_of an_rows_of od_joined an_joined od_window an_window od_foretold an_foretold od__window_of an__window_of od__from_beacons an__from_beacons od__to_heads an__to_heads od__first_of_hour an__first_of_hour od__law_cell an__law_cell od__law_row an__law_row od__law_draw an__law_draw od__law_is_integer an__law_is_integer od__law_same an__law_same od__law_mix an__law_mix od__law_digest an__law_digest od__law_half an__law_half od__law_root an__law_root od__law_way an__law_way od__law_backs an__law_backs od__law_pool an__law_pool od__law_pick an__law_pick od__law_head an__law_head od__law_thing an__law_thing od__law_things an__law_things od__law_places an__law_places od__law_walk an__law_walk od__law_paper an__law_paper od__law_papers an__law_papers od__law_last an__law_last od__law_due_parts an__law_due_parts od_law an_law od_Mixing___init__ an_Mixing___init__ od_Paper___init__ an_Paper___init__ od_Notebook___init__ an_Notebook___init__ od_Notebook_note an_Notebook_note od_Notebook_see an_Notebook_see od_Notebook_has_noted an_Notebook_has_noted od_Notebook_seen an_Notebook_seen od_NotebookError___init__ an_NotebookError___init__ : Option Addr} {sl_digest sl__mixed sl_is_thing sl__is_document sl__is_head sl_is_thing_of sl_kind_of sl__back_count sl__greatest_step sl__first_count sl_turns sl_climb sl__nodes_up sl_listed sl_has_place sl_held_at sl_holds sl_is_right_round sl_is_accepted sl__first_fault sl__fault_of_step sl_rows_of sl_joined sl_window sl_foretold sl__window_of sl__from_beacons sl__to_heads sl__first_of_hour sl__law_cell sl__law_row sl__law_draw sl__law_is_integer sl__law_same sl__law_mix sl__law_digest sl__law_half sl__law_root sl__law_way sl__law_backs sl__law_pool sl__law_pick sl__law_head sl__law_thing sl__law_things sl__law_places sl__law_walk sl__law_paper sl__law_papers sl__law_last sl__law_due_parts sl_law sl_Mixing___init__ sl_Paper___init__ sl_Notebook___init__ sl_Notebook_note sl_Notebook_see sl_Notebook_has_noted sl_Notebook_seen sl_NotebookError___init__ : Array (Option Value)} {oc_digest kV_digest dc_digest pm_digest cd_digest ct_digest oc__mixed kV__mixed dc__mixed pm__mixed cd__mixed ct__mixed oc_is_thing kV_is_thing dc_is_thing pm_is_thing cd_is_thing ct_is_thing oc__is_document kV__is_document dc__is_document pm__is_document cd__is_document ct__is_document oc__is_head kV__is_head dc__is_head pm__is_head cd__is_head ct__is_head oc_is_thing_of kV_is_thing_of dc_is_thing_of pm_is_thing_of cd_is_thing_of ct_is_thing_of oc_kind_of kV_kind_of dc_kind_of pm_kind_of cd_kind_of ct_kind_of oc__back_count kV__back_count dc__back_count pm__back_count cd__back_count ct__back_count oc__greatest_step kV__greatest_step dc__greatest_step pm__greatest_step cd__greatest_step ct__greatest_step oc__first_count kV__first_count dc__first_count pm__first_count cd__first_count ct__first_count oc_turns kV_turns dc_turns pm_turns cd_turns ct_turns oc_climb kV_climb dc_climb pm_climb cd_climb ct_climb oc__nodes_up kV__nodes_up dc__nodes_up pm__nodes_up cd__nodes_up ct__nodes_up oc_listed kV_listed dc_listed pm_listed cd_listed ct_listed oc_has_place kV_has_place dc_has_place pm_has_place cd_has_place ct_has_place oc_held_at kV_held_at dc_held_at pm_held_at cd_held_at ct_held_at oc_holds kV_holds dc_holds pm_holds cd_holds ct_holds oc_is_right_round kV_is_right_round dc_is_right_round pm_is_right_round cd_is_right_round ct_is_right_round oc_is_accepted kV_is_accepted dc_is_accepted pm_is_accepted cd_is_accepted ct_is_accepted oc__first_fault kV__first_fault dc__first_fault pm__first_fault cd__first_fault ct__first_fault oc__fault_of_step kV__fault_of_step dc__fault_of_step pm__fault_of_step cd__fault_of_step ct__fault_of_step oc_rows_of kV_rows_of dc_rows_of pm_rows_of cd_rows_of ct_rows_of oc_joined kV_joined dc_joined pm_joined cd_joined ct_joined oc_window kV_window dc_window pm_window cd_window ct_window oc_foretold kV_foretold dc_foretold pm_foretold cd_foretold ct_foretold oc__window_of kV__window_of dc__window_of pm__window_of cd__window_of ct__window_of oc__from_beacons kV__from_beacons dc__from_beacons pm__from_beacons cd__from_beacons ct__from_beacons oc__to_heads kV__to_heads dc__to_heads pm__to_heads cd__to_heads ct__to_heads oc__first_of_hour kV__first_of_hour dc__first_of_hour pm__first_of_hour cd__first_of_hour ct__first_of_hour oc__law_cell kV__law_cell dc__law_cell pm__law_cell cd__law_cell ct__law_cell oc__law_row kV__law_row dc__law_row pm__law_row cd__law_row ct__law_row oc__law_draw kV__law_draw dc__law_draw pm__law_draw cd__law_draw ct__law_draw oc__law_is_integer kV__law_is_integer dc__law_is_integer pm__law_is_integer cd__law_is_integer ct__law_is_integer oc__law_same kV__law_same dc__law_same pm__law_same cd__law_same ct__law_same oc__law_mix kV__law_mix dc__law_mix pm__law_mix cd__law_mix ct__law_mix oc__law_digest kV__law_digest dc__law_digest pm__law_digest cd__law_digest ct__law_digest oc__law_half kV__law_half dc__law_half pm__law_half cd__law_half ct__law_half oc__law_root kV__law_root dc__law_root pm__law_root cd__law_root ct__law_root oc__law_way kV__law_way dc__law_way pm__law_way cd__law_way ct__law_way oc__law_backs kV__law_backs dc__law_backs pm__law_backs cd__law_backs ct__law_backs oc__law_pool kV__law_pool dc__law_pool pm__law_pool cd__law_pool ct__law_pool oc__law_pick kV__law_pick dc__law_pick pm__law_pick cd__law_pick ct__law_pick oc__law_head kV__law_head dc__law_head pm__law_head cd__law_head ct__law_head oc__law_thing kV__law_thing dc__law_thing pm__law_thing cd__law_thing ct__law_thing oc__law_things kV__law_things dc__law_things pm__law_things cd__law_things ct__law_things oc__law_places kV__law_places dc__law_places pm__law_places cd__law_places ct__law_places oc__law_walk kV__law_walk dc__law_walk pm__law_walk cd__law_walk ct__law_walk oc__law_paper kV__law_paper dc__law_paper pm__law_paper cd__law_paper ct__law_paper oc__law_papers kV__law_papers dc__law_papers pm__law_papers cd__law_papers ct__law_papers oc__law_last kV__law_last dc__law_last pm__law_last cd__law_last ct__law_last oc__law_due_parts kV__law_due_parts dc__law_due_parts pm__law_due_parts cd__law_due_parts ct__law_due_parts oc_law kV_law dc_law pm_law cd_law ct_law oc_Mixing___init__ kV_Mixing___init__ dc_Mixing___init__ pm_Mixing___init__ cd_Mixing___init__ ct_Mixing___init__ oc_Paper___init__ kV_Paper___init__ dc_Paper___init__ pm_Paper___init__ cd_Paper___init__ ct_Paper___init__ oc_Notebook___init__ kV_Notebook___init__ dc_Notebook___init__ pm_Notebook___init__ cd_Notebook___init__ ct_Notebook___init__ oc_Notebook_note kV_Notebook_note dc_Notebook_note pm_Notebook_note cd_Notebook_note ct_Notebook_note oc_Notebook_see kV_Notebook_see dc_Notebook_see pm_Notebook_see cd_Notebook_see ct_Notebook_see oc_Notebook_has_noted kV_Notebook_has_noted dc_Notebook_has_noted pm_Notebook_has_noted cd_Notebook_has_noted ct_Notebook_has_noted oc_Notebook_seen kV_Notebook_seen dc_Notebook_seen pm_Notebook_seen cd_Notebook_seen ct_Notebook_seen oc_NotebookError___init__ kV_NotebookError___init__ dc_NotebookError___init__ pm_NotebookError___init__ cd_NotebookError___init__ ct_NotebookError___init__ : Value}
    {t_PRIME t_BEACON t_DOCUMENT t_HEAD t_RENEWAL t_NODE t_CITE t_BACK t_ENTRY : Tok}
    (aE_SealError : PySem.W.nsIn K mainGlobals "SealError" = some (some (.ref E_SealError)))
    (aE_NotebookError : PySem.W.nsIn K mainGlobals "NotebookError" = some (some (.ref E_NotebookError)))
    (eX_SealError : PySem.W.subIn K (.ref E_SealError) (.type "BaseException") = some true)
    (eH_SealError : PySem.W.hasDictIn K E_SealError = true)
    (eT_SealError : PySem.W.typeIn K (.ref E_SealError) = some (.type "type"))
    (eX_NotebookError : PySem.W.subIn K (.ref E_NotebookError) (.type "BaseException") = some true)
    (eH_NotebookError : PySem.W.hasDictIn K E_NotebookError = true)
    (eT_NotebookError : PySem.W.typeIn K (.ref E_NotebookError) = some (.type "type"))
    (eN_NotebookError_reason : PySem.W.findIn K (.ref E_NotebookError) "reason" = some none)
    (eL_NotebookError : K.lookup E_NotebookError = some (excClassObj nm_NotebookError q_NotebookError E_NotebookError N_NotebookError bs_NotebookError [.ref E_SealError, .type "ValueError", .type "Exception", .type "BaseException", .type "object"] true sn_NotebookError sub_NotebookError ab_NotebookError col_NotebookError dd_NotebookError m0_NotebookError m1_NotebookError m2_NotebookError m3_NotebookError m5_NotebookError "ValueError.__new__"))
    (eS_NotebookError : PySem.W.findIn K (.ref E_NotebookError) "__setattr__" = some (some (.builtin "object.__setattr__")))
    (eK_NotebookError : PySem.W.keepIn K (.ref E_NotebookError) = true)
    (eG_NotebookError : PySem.W.findIn K (.ref E_NotebookError) "__getattribute__" = some (some (.builtin "BaseException.__getattribute__")))
    (eA_NotebookError : PySem.W.findIn K (.ref E_NotebookError) "__getattr__" = some none)
    (eC_NotebookError : PySem.W.findIn K (.ref E_NotebookError) "__class__" = some (some (.builtin "object.__class__")))
    (eM_NotebookError : PySem.W.mroIn K E_NotebookError (.type "object") = some true)
    (eU_NotebookError_NotebookError : PySem.W.subIn K (.ref E_NotebookError) (.ref E_NotebookError) = some true)
    (eU_NotebookError_SealError : PySem.W.subIn K (.ref E_NotebookError) (.ref E_SealError) = some true)
    (eget : PySem.W.specialIn K (.builtin "object.__class__") "__get__" = some (some (.builtin "getset_descriptor.__get__")))
    (etk : PySem.W.takesIn K (.builtin "object.__class__") = some true)
    (aC_Mixing : PySem.W.nsIn K mainGlobals "Mixing" = some (some (.ref C_Mixing)))
    (aC_Paper : PySem.W.nsIn K mainGlobals "Paper" = some (some (.ref C_Paper)))
    (aC_Notebook : PySem.W.nsIn K mainGlobals "Notebook" = some (some (.ref C_Notebook)))
    (a_digest : PySem.W.nsIn K mainGlobals "digest" = some (some (.ref f_digest)))
    (l_digest : K.lookup f_digest = some ⟨oc_digest, od_digest, .func (PySem.W.fnOf "digest" "digest" (defArgs s_digest) (defBody s_digest) (defScope s_digest) .none kV_digest dc_digest pm_digest an_digest cd_digest ct_digest), sl_digest⟩)
    (c_digest : PySem.W.codeIn K cd_digest "digest" = true)
    (k_digest : PySem.W.keepIn K (.ref f_digest) = true)
    (a__mixed : PySem.W.nsIn K mainGlobals "_mixed" = some (some (.ref f__mixed)))
    (l__mixed : K.lookup f__mixed = some ⟨oc__mixed, od__mixed, .func (PySem.W.fnOf "_mixed" "_mixed" (defArgs s__mixed) (defBody s__mixed) (defScope s__mixed) .none kV__mixed dc__mixed pm__mixed an__mixed cd__mixed ct__mixed), sl__mixed⟩)
    (c__mixed : PySem.W.codeIn K cd__mixed "_mixed" = true)
    (k__mixed : PySem.W.keepIn K (.ref f__mixed) = true)
    (a_is_thing : PySem.W.nsIn K mainGlobals "is_thing" = some (some (.ref f_is_thing)))
    (l_is_thing : K.lookup f_is_thing = some ⟨oc_is_thing, od_is_thing, .func (PySem.W.fnOf "is_thing" "is_thing" (defArgs s_is_thing) (defBody s_is_thing) (defScope s_is_thing) .none kV_is_thing dc_is_thing pm_is_thing an_is_thing cd_is_thing ct_is_thing), sl_is_thing⟩)
    (c_is_thing : PySem.W.codeIn K cd_is_thing "is_thing" = true)
    (k_is_thing : PySem.W.keepIn K (.ref f_is_thing) = true)
    (a__is_document : PySem.W.nsIn K mainGlobals "_is_document" = some (some (.ref f__is_document)))
    (l__is_document : K.lookup f__is_document = some ⟨oc__is_document, od__is_document, .func (PySem.W.fnOf "_is_document" "_is_document" (defArgs s__is_document) (defBody s__is_document) (defScope s__is_document) .none kV__is_document dc__is_document pm__is_document an__is_document cd__is_document ct__is_document), sl__is_document⟩)
    (c__is_document : PySem.W.codeIn K cd__is_document "_is_document" = true)
    (k__is_document : PySem.W.keepIn K (.ref f__is_document) = true)
    (a__is_head : PySem.W.nsIn K mainGlobals "_is_head" = some (some (.ref f__is_head)))
    (l__is_head : K.lookup f__is_head = some ⟨oc__is_head, od__is_head, .func (PySem.W.fnOf "_is_head" "_is_head" (defArgs s__is_head) (defBody s__is_head) (defScope s__is_head) .none kV__is_head dc__is_head pm__is_head an__is_head cd__is_head ct__is_head), sl__is_head⟩)
    (c__is_head : PySem.W.codeIn K cd__is_head "_is_head" = true)
    (k__is_head : PySem.W.keepIn K (.ref f__is_head) = true)
    (a_is_thing_of : PySem.W.nsIn K mainGlobals "is_thing_of" = some (some (.ref f_is_thing_of)))
    (l_is_thing_of : K.lookup f_is_thing_of = some ⟨oc_is_thing_of, od_is_thing_of, .func (PySem.W.fnOf "is_thing_of" "is_thing_of" (defArgs s_is_thing_of) (defBody s_is_thing_of) (defScope s_is_thing_of) .none kV_is_thing_of dc_is_thing_of pm_is_thing_of an_is_thing_of cd_is_thing_of ct_is_thing_of), sl_is_thing_of⟩)
    (c_is_thing_of : PySem.W.codeIn K cd_is_thing_of "is_thing_of" = true)
    (k_is_thing_of : PySem.W.keepIn K (.ref f_is_thing_of) = true)
    (a_kind_of : PySem.W.nsIn K mainGlobals "kind_of" = some (some (.ref f_kind_of)))
    (l_kind_of : K.lookup f_kind_of = some ⟨oc_kind_of, od_kind_of, .func (PySem.W.fnOf "kind_of" "kind_of" (defArgs s_kind_of) (defBody s_kind_of) (defScope s_kind_of) .none kV_kind_of dc_kind_of pm_kind_of an_kind_of cd_kind_of ct_kind_of), sl_kind_of⟩)
    (c_kind_of : PySem.W.codeIn K cd_kind_of "kind_of" = true)
    (k_kind_of : PySem.W.keepIn K (.ref f_kind_of) = true)
    (a__back_count : PySem.W.nsIn K mainGlobals "_back_count" = some (some (.ref f__back_count)))
    (l__back_count : K.lookup f__back_count = some ⟨oc__back_count, od__back_count, .func (PySem.W.fnOf "_back_count" "_back_count" (defArgs s__back_count) (defBody s__back_count) (defScope s__back_count) .none kV__back_count dc__back_count pm__back_count an__back_count cd__back_count ct__back_count), sl__back_count⟩)
    (c__back_count : PySem.W.codeIn K cd__back_count "_back_count" = true)
    (k__back_count : PySem.W.keepIn K (.ref f__back_count) = true)
    (a__greatest_step : PySem.W.nsIn K mainGlobals "_greatest_step" = some (some (.ref f__greatest_step)))
    (l__greatest_step : K.lookup f__greatest_step = some ⟨oc__greatest_step, od__greatest_step, .func (PySem.W.fnOf "_greatest_step" "_greatest_step" (defArgs s__greatest_step) (defBody s__greatest_step) (defScope s__greatest_step) .none kV__greatest_step dc__greatest_step pm__greatest_step an__greatest_step cd__greatest_step ct__greatest_step), sl__greatest_step⟩)
    (c__greatest_step : PySem.W.codeIn K cd__greatest_step "_greatest_step" = true)
    (k__greatest_step : PySem.W.keepIn K (.ref f__greatest_step) = true)
    (a__first_count : PySem.W.nsIn K mainGlobals "_first_count" = some (some (.ref f__first_count)))
    (l__first_count : K.lookup f__first_count = some ⟨oc__first_count, od__first_count, .func (PySem.W.fnOf "_first_count" "_first_count" (defArgs s__first_count) (defBody s__first_count) (defScope s__first_count) .none kV__first_count dc__first_count pm__first_count an__first_count cd__first_count ct__first_count), sl__first_count⟩)
    (c__first_count : PySem.W.codeIn K cd__first_count "_first_count" = true)
    (k__first_count : PySem.W.keepIn K (.ref f__first_count) = true)
    (a_turns : PySem.W.nsIn K mainGlobals "turns" = some (some (.ref f_turns)))
    (l_turns : K.lookup f_turns = some ⟨oc_turns, od_turns, .func (PySem.W.fnOf "turns" "turns" (defArgs s_turns) (defBody s_turns) (defScope s_turns) .none kV_turns dc_turns pm_turns an_turns cd_turns ct_turns), sl_turns⟩)
    (c_turns : PySem.W.codeIn K cd_turns "turns" = true)
    (k_turns : PySem.W.keepIn K (.ref f_turns) = true)
    (a_climb : PySem.W.nsIn K mainGlobals "climb" = some (some (.ref f_climb)))
    (l_climb : K.lookup f_climb = some ⟨oc_climb, od_climb, .func (PySem.W.fnOf "climb" "climb" (defArgs s_climb) (defBody s_climb) (defScope s_climb) .none kV_climb dc_climb pm_climb an_climb cd_climb ct_climb), sl_climb⟩)
    (c_climb : PySem.W.codeIn K cd_climb "climb" = true)
    (k_climb : PySem.W.keepIn K (.ref f_climb) = true)
    (a__nodes_up : PySem.W.nsIn K mainGlobals "_nodes_up" = some (some (.ref f__nodes_up)))
    (l__nodes_up : K.lookup f__nodes_up = some ⟨oc__nodes_up, od__nodes_up, .func (PySem.W.fnOf "_nodes_up" "_nodes_up" (defArgs s__nodes_up) (defBody s__nodes_up) (defScope s__nodes_up) .none kV__nodes_up dc__nodes_up pm__nodes_up an__nodes_up cd__nodes_up ct__nodes_up), sl__nodes_up⟩)
    (c__nodes_up : PySem.W.codeIn K cd__nodes_up "_nodes_up" = true)
    (k__nodes_up : PySem.W.keepIn K (.ref f__nodes_up) = true)
    (a_listed : PySem.W.nsIn K mainGlobals "listed" = some (some (.ref f_listed)))
    (l_listed : K.lookup f_listed = some ⟨oc_listed, od_listed, .func (PySem.W.fnOf "listed" "listed" (defArgs s_listed) (defBody s_listed) (defScope s_listed) .none kV_listed dc_listed pm_listed an_listed cd_listed ct_listed), sl_listed⟩)
    (c_listed : PySem.W.codeIn K cd_listed "listed" = true)
    (k_listed : PySem.W.keepIn K (.ref f_listed) = true)
    (a_has_place : PySem.W.nsIn K mainGlobals "has_place" = some (some (.ref f_has_place)))
    (l_has_place : K.lookup f_has_place = some ⟨oc_has_place, od_has_place, .func (PySem.W.fnOf "has_place" "has_place" (defArgs s_has_place) (defBody s_has_place) (defScope s_has_place) .none kV_has_place dc_has_place pm_has_place an_has_place cd_has_place ct_has_place), sl_has_place⟩)
    (c_has_place : PySem.W.codeIn K cd_has_place "has_place" = true)
    (k_has_place : PySem.W.keepIn K (.ref f_has_place) = true)
    (a_held_at : PySem.W.nsIn K mainGlobals "held_at" = some (some (.ref f_held_at)))
    (l_held_at : K.lookup f_held_at = some ⟨oc_held_at, od_held_at, .func (PySem.W.fnOf "held_at" "held_at" (defArgs s_held_at) (defBody s_held_at) (defScope s_held_at) .none kV_held_at dc_held_at pm_held_at an_held_at cd_held_at ct_held_at), sl_held_at⟩)
    (c_held_at : PySem.W.codeIn K cd_held_at "held_at" = true)
    (k_held_at : PySem.W.keepIn K (.ref f_held_at) = true)
    (a_holds : PySem.W.nsIn K mainGlobals "holds" = some (some (.ref f_holds)))
    (l_holds : K.lookup f_holds = some ⟨oc_holds, od_holds, .func (PySem.W.fnOf "holds" "holds" (defArgs s_holds) (defBody s_holds) (defScope s_holds) .none kV_holds dc_holds pm_holds an_holds cd_holds ct_holds), sl_holds⟩)
    (c_holds : PySem.W.codeIn K cd_holds "holds" = true)
    (k_holds : PySem.W.keepIn K (.ref f_holds) = true)
    (a_is_right_round : PySem.W.nsIn K mainGlobals "is_right_round" = some (some (.ref f_is_right_round)))
    (l_is_right_round : K.lookup f_is_right_round = some ⟨oc_is_right_round, od_is_right_round, .func (PySem.W.fnOf "is_right_round" "is_right_round" (defArgs s_is_right_round) (defBody s_is_right_round) (defScope s_is_right_round) .none kV_is_right_round dc_is_right_round pm_is_right_round an_is_right_round cd_is_right_round ct_is_right_round), sl_is_right_round⟩)
    (c_is_right_round : PySem.W.codeIn K cd_is_right_round "is_right_round" = true)
    (k_is_right_round : PySem.W.keepIn K (.ref f_is_right_round) = true)
    (a_is_accepted : PySem.W.nsIn K mainGlobals "is_accepted" = some (some (.ref f_is_accepted)))
    (l_is_accepted : K.lookup f_is_accepted = some ⟨oc_is_accepted, od_is_accepted, .func (PySem.W.fnOf "is_accepted" "is_accepted" (defArgs s_is_accepted) (defBody s_is_accepted) (defScope s_is_accepted) .none kV_is_accepted dc_is_accepted pm_is_accepted an_is_accepted cd_is_accepted ct_is_accepted), sl_is_accepted⟩)
    (c_is_accepted : PySem.W.codeIn K cd_is_accepted "is_accepted" = true)
    (k_is_accepted : PySem.W.keepIn K (.ref f_is_accepted) = true)
    (a__first_fault : PySem.W.nsIn K mainGlobals "_first_fault" = some (some (.ref f__first_fault)))
    (l__first_fault : K.lookup f__first_fault = some ⟨oc__first_fault, od__first_fault, .func (PySem.W.fnOf "_first_fault" "_first_fault" (defArgs s__first_fault) (defBody s__first_fault) (defScope s__first_fault) .none kV__first_fault dc__first_fault pm__first_fault an__first_fault cd__first_fault ct__first_fault), sl__first_fault⟩)
    (c__first_fault : PySem.W.codeIn K cd__first_fault "_first_fault" = true)
    (k__first_fault : PySem.W.keepIn K (.ref f__first_fault) = true)
    (a__fault_of_step : PySem.W.nsIn K mainGlobals "_fault_of_step" = some (some (.ref f__fault_of_step)))
    (l__fault_of_step : K.lookup f__fault_of_step = some ⟨oc__fault_of_step, od__fault_of_step, .func (PySem.W.fnOf "_fault_of_step" "_fault_of_step" (defArgs s__fault_of_step) (defBody s__fault_of_step) (defScope s__fault_of_step) .none kV__fault_of_step dc__fault_of_step pm__fault_of_step an__fault_of_step cd__fault_of_step ct__fault_of_step), sl__fault_of_step⟩)
    (c__fault_of_step : PySem.W.codeIn K cd__fault_of_step "_fault_of_step" = true)
    (k__fault_of_step : PySem.W.keepIn K (.ref f__fault_of_step) = true)
    (a_rows_of : PySem.W.nsIn K mainGlobals "rows_of" = some (some (.ref f_rows_of)))
    (l_rows_of : K.lookup f_rows_of = some ⟨oc_rows_of, od_rows_of, .func (PySem.W.fnOf "rows_of" "rows_of" (defArgs s_rows_of) (defBody s_rows_of) (defScope s_rows_of) .none kV_rows_of dc_rows_of pm_rows_of an_rows_of cd_rows_of ct_rows_of), sl_rows_of⟩)
    (c_rows_of : PySem.W.codeIn K cd_rows_of "rows_of" = true)
    (k_rows_of : PySem.W.keepIn K (.ref f_rows_of) = true)
    (a_joined : PySem.W.nsIn K mainGlobals "joined" = some (some (.ref f_joined)))
    (l_joined : K.lookup f_joined = some ⟨oc_joined, od_joined, .func (PySem.W.fnOf "joined" "joined" (defArgs s_joined) (defBody s_joined) (defScope s_joined) .none kV_joined dc_joined pm_joined an_joined cd_joined ct_joined), sl_joined⟩)
    (c_joined : PySem.W.codeIn K cd_joined "joined" = true)
    (k_joined : PySem.W.keepIn K (.ref f_joined) = true)
    (a_window : PySem.W.nsIn K mainGlobals "window" = some (some (.ref f_window)))
    (l_window : K.lookup f_window = some ⟨oc_window, od_window, .func (PySem.W.fnOf "window" "window" (defArgs s_window) (defBody s_window) (defScope s_window) .none kV_window dc_window pm_window an_window cd_window ct_window), sl_window⟩)
    (c_window : PySem.W.codeIn K cd_window "window" = true)
    (k_window : PySem.W.keepIn K (.ref f_window) = true)
    (a_foretold : PySem.W.nsIn K mainGlobals "foretold" = some (some (.ref f_foretold)))
    (l_foretold : K.lookup f_foretold = some ⟨oc_foretold, od_foretold, .func (PySem.W.fnOf "foretold" "foretold" (defArgs s_foretold) (defBody s_foretold) (defScope s_foretold) .none kV_foretold dc_foretold pm_foretold an_foretold cd_foretold ct_foretold), sl_foretold⟩)
    (c_foretold : PySem.W.codeIn K cd_foretold "foretold" = true)
    (k_foretold : PySem.W.keepIn K (.ref f_foretold) = true)
    (a__window_of : PySem.W.nsIn K mainGlobals "_window_of" = some (some (.ref f__window_of)))
    (l__window_of : K.lookup f__window_of = some ⟨oc__window_of, od__window_of, .func (PySem.W.fnOf "_window_of" "_window_of" (defArgs s__window_of) (defBody s__window_of) (defScope s__window_of) .none kV__window_of dc__window_of pm__window_of an__window_of cd__window_of ct__window_of), sl__window_of⟩)
    (c__window_of : PySem.W.codeIn K cd__window_of "_window_of" = true)
    (k__window_of : PySem.W.keepIn K (.ref f__window_of) = true)
    (a__from_beacons : PySem.W.nsIn K mainGlobals "_from_beacons" = some (some (.ref f__from_beacons)))
    (l__from_beacons : K.lookup f__from_beacons = some ⟨oc__from_beacons, od__from_beacons, .func (PySem.W.fnOf "_from_beacons" "_from_beacons" (defArgs s__from_beacons) (defBody s__from_beacons) (defScope s__from_beacons) .none kV__from_beacons dc__from_beacons pm__from_beacons an__from_beacons cd__from_beacons ct__from_beacons), sl__from_beacons⟩)
    (c__from_beacons : PySem.W.codeIn K cd__from_beacons "_from_beacons" = true)
    (k__from_beacons : PySem.W.keepIn K (.ref f__from_beacons) = true)
    (a__to_heads : PySem.W.nsIn K mainGlobals "_to_heads" = some (some (.ref f__to_heads)))
    (l__to_heads : K.lookup f__to_heads = some ⟨oc__to_heads, od__to_heads, .func (PySem.W.fnOf "_to_heads" "_to_heads" (defArgs s__to_heads) (defBody s__to_heads) (defScope s__to_heads) .none kV__to_heads dc__to_heads pm__to_heads an__to_heads cd__to_heads ct__to_heads), sl__to_heads⟩)
    (c__to_heads : PySem.W.codeIn K cd__to_heads "_to_heads" = true)
    (k__to_heads : PySem.W.keepIn K (.ref f__to_heads) = true)
    (a__first_of_hour : PySem.W.nsIn K mainGlobals "_first_of_hour" = some (some (.ref f__first_of_hour)))
    (l__first_of_hour : K.lookup f__first_of_hour = some ⟨oc__first_of_hour, od__first_of_hour, .func (PySem.W.fnOf "_first_of_hour" "_first_of_hour" (defArgs s__first_of_hour) (defBody s__first_of_hour) (defScope s__first_of_hour) .none kV__first_of_hour dc__first_of_hour pm__first_of_hour an__first_of_hour cd__first_of_hour ct__first_of_hour), sl__first_of_hour⟩)
    (c__first_of_hour : PySem.W.codeIn K cd__first_of_hour "_first_of_hour" = true)
    (k__first_of_hour : PySem.W.keepIn K (.ref f__first_of_hour) = true)
    (a__law_cell : PySem.W.nsIn K mainGlobals "_law_cell" = some (some (.ref f__law_cell)))
    (l__law_cell : K.lookup f__law_cell = some ⟨oc__law_cell, od__law_cell, .func (PySem.W.fnOf "_law_cell" "_law_cell" (defArgs s__law_cell) (defBody s__law_cell) (defScope s__law_cell) .none kV__law_cell dc__law_cell pm__law_cell an__law_cell cd__law_cell ct__law_cell), sl__law_cell⟩)
    (c__law_cell : PySem.W.codeIn K cd__law_cell "_law_cell" = true)
    (k__law_cell : PySem.W.keepIn K (.ref f__law_cell) = true)
    (a__law_row : PySem.W.nsIn K mainGlobals "_law_row" = some (some (.ref f__law_row)))
    (l__law_row : K.lookup f__law_row = some ⟨oc__law_row, od__law_row, .func (PySem.W.fnOf "_law_row" "_law_row" (defArgs s__law_row) (defBody s__law_row) (defScope s__law_row) .none kV__law_row dc__law_row pm__law_row an__law_row cd__law_row ct__law_row), sl__law_row⟩)
    (c__law_row : PySem.W.codeIn K cd__law_row "_law_row" = true)
    (k__law_row : PySem.W.keepIn K (.ref f__law_row) = true)
    (a__law_draw : PySem.W.nsIn K mainGlobals "_law_draw" = some (some (.ref f__law_draw)))
    (l__law_draw : K.lookup f__law_draw = some ⟨oc__law_draw, od__law_draw, .func (PySem.W.fnOf "_law_draw" "_law_draw" (defArgs s__law_draw) (defBody s__law_draw) (defScope s__law_draw) .none kV__law_draw dc__law_draw pm__law_draw an__law_draw cd__law_draw ct__law_draw), sl__law_draw⟩)
    (c__law_draw : PySem.W.codeIn K cd__law_draw "_law_draw" = true)
    (k__law_draw : PySem.W.keepIn K (.ref f__law_draw) = true)
    (a__law_is_integer : PySem.W.nsIn K mainGlobals "_law_is_integer" = some (some (.ref f__law_is_integer)))
    (l__law_is_integer : K.lookup f__law_is_integer = some ⟨oc__law_is_integer, od__law_is_integer, .func (PySem.W.fnOf "_law_is_integer" "_law_is_integer" (defArgs s__law_is_integer) (defBody s__law_is_integer) (defScope s__law_is_integer) .none kV__law_is_integer dc__law_is_integer pm__law_is_integer an__law_is_integer cd__law_is_integer ct__law_is_integer), sl__law_is_integer⟩)
    (c__law_is_integer : PySem.W.codeIn K cd__law_is_integer "_law_is_integer" = true)
    (k__law_is_integer : PySem.W.keepIn K (.ref f__law_is_integer) = true)
    (a__law_same : PySem.W.nsIn K mainGlobals "_law_same" = some (some (.ref f__law_same)))
    (l__law_same : K.lookup f__law_same = some ⟨oc__law_same, od__law_same, .func (PySem.W.fnOf "_law_same" "_law_same" (defArgs s__law_same) (defBody s__law_same) (defScope s__law_same) .none kV__law_same dc__law_same pm__law_same an__law_same cd__law_same ct__law_same), sl__law_same⟩)
    (c__law_same : PySem.W.codeIn K cd__law_same "_law_same" = true)
    (k__law_same : PySem.W.keepIn K (.ref f__law_same) = true)
    (a__law_mix : PySem.W.nsIn K mainGlobals "_law_mix" = some (some (.ref f__law_mix)))
    (l__law_mix : K.lookup f__law_mix = some ⟨oc__law_mix, od__law_mix, .func (PySem.W.fnOf "_law_mix" "_law_mix" (defArgs s__law_mix) (defBody s__law_mix) (defScope s__law_mix) .none kV__law_mix dc__law_mix pm__law_mix an__law_mix cd__law_mix ct__law_mix), sl__law_mix⟩)
    (c__law_mix : PySem.W.codeIn K cd__law_mix "_law_mix" = true)
    (k__law_mix : PySem.W.keepIn K (.ref f__law_mix) = true)
    (a__law_digest : PySem.W.nsIn K mainGlobals "_law_digest" = some (some (.ref f__law_digest)))
    (l__law_digest : K.lookup f__law_digest = some ⟨oc__law_digest, od__law_digest, .func (PySem.W.fnOf "_law_digest" "_law_digest" (defArgs s__law_digest) (defBody s__law_digest) (defScope s__law_digest) .none kV__law_digest dc__law_digest pm__law_digest an__law_digest cd__law_digest ct__law_digest), sl__law_digest⟩)
    (c__law_digest : PySem.W.codeIn K cd__law_digest "_law_digest" = true)
    (k__law_digest : PySem.W.keepIn K (.ref f__law_digest) = true)
    (a__law_half : PySem.W.nsIn K mainGlobals "_law_half" = some (some (.ref f__law_half)))
    (l__law_half : K.lookup f__law_half = some ⟨oc__law_half, od__law_half, .func (PySem.W.fnOf "_law_half" "_law_half" (defArgs s__law_half) (defBody s__law_half) (defScope s__law_half) .none kV__law_half dc__law_half pm__law_half an__law_half cd__law_half ct__law_half), sl__law_half⟩)
    (c__law_half : PySem.W.codeIn K cd__law_half "_law_half" = true)
    (k__law_half : PySem.W.keepIn K (.ref f__law_half) = true)
    (a__law_root : PySem.W.nsIn K mainGlobals "_law_root" = some (some (.ref f__law_root)))
    (l__law_root : K.lookup f__law_root = some ⟨oc__law_root, od__law_root, .func (PySem.W.fnOf "_law_root" "_law_root" (defArgs s__law_root) (defBody s__law_root) (defScope s__law_root) .none kV__law_root dc__law_root pm__law_root an__law_root cd__law_root ct__law_root), sl__law_root⟩)
    (c__law_root : PySem.W.codeIn K cd__law_root "_law_root" = true)
    (k__law_root : PySem.W.keepIn K (.ref f__law_root) = true)
    (a__law_way : PySem.W.nsIn K mainGlobals "_law_way" = some (some (.ref f__law_way)))
    (l__law_way : K.lookup f__law_way = some ⟨oc__law_way, od__law_way, .func (PySem.W.fnOf "_law_way" "_law_way" (defArgs s__law_way) (defBody s__law_way) (defScope s__law_way) .none kV__law_way dc__law_way pm__law_way an__law_way cd__law_way ct__law_way), sl__law_way⟩)
    (c__law_way : PySem.W.codeIn K cd__law_way "_law_way" = true)
    (k__law_way : PySem.W.keepIn K (.ref f__law_way) = true)
    (a__law_backs : PySem.W.nsIn K mainGlobals "_law_backs" = some (some (.ref f__law_backs)))
    (l__law_backs : K.lookup f__law_backs = some ⟨oc__law_backs, od__law_backs, .func (PySem.W.fnOf "_law_backs" "_law_backs" (defArgs s__law_backs) (defBody s__law_backs) (defScope s__law_backs) .none kV__law_backs dc__law_backs pm__law_backs an__law_backs cd__law_backs ct__law_backs), sl__law_backs⟩)
    (c__law_backs : PySem.W.codeIn K cd__law_backs "_law_backs" = true)
    (k__law_backs : PySem.W.keepIn K (.ref f__law_backs) = true)
    (a__law_pool : PySem.W.nsIn K mainGlobals "_law_pool" = some (some (.ref f__law_pool)))
    (l__law_pool : K.lookup f__law_pool = some ⟨oc__law_pool, od__law_pool, .func (PySem.W.fnOf "_law_pool" "_law_pool" (defArgs s__law_pool) (defBody s__law_pool) (defScope s__law_pool) .none kV__law_pool dc__law_pool pm__law_pool an__law_pool cd__law_pool ct__law_pool), sl__law_pool⟩)
    (c__law_pool : PySem.W.codeIn K cd__law_pool "_law_pool" = true)
    (k__law_pool : PySem.W.keepIn K (.ref f__law_pool) = true)
    (a__law_pick : PySem.W.nsIn K mainGlobals "_law_pick" = some (some (.ref f__law_pick)))
    (l__law_pick : K.lookup f__law_pick = some ⟨oc__law_pick, od__law_pick, .func (PySem.W.fnOf "_law_pick" "_law_pick" (defArgs s__law_pick) (defBody s__law_pick) (defScope s__law_pick) .none kV__law_pick dc__law_pick pm__law_pick an__law_pick cd__law_pick ct__law_pick), sl__law_pick⟩)
    (c__law_pick : PySem.W.codeIn K cd__law_pick "_law_pick" = true)
    (k__law_pick : PySem.W.keepIn K (.ref f__law_pick) = true)
    (a__law_head : PySem.W.nsIn K mainGlobals "_law_head" = some (some (.ref f__law_head)))
    (l__law_head : K.lookup f__law_head = some ⟨oc__law_head, od__law_head, .func (PySem.W.fnOf "_law_head" "_law_head" (defArgs s__law_head) (defBody s__law_head) (defScope s__law_head) .none kV__law_head dc__law_head pm__law_head an__law_head cd__law_head ct__law_head), sl__law_head⟩)
    (c__law_head : PySem.W.codeIn K cd__law_head "_law_head" = true)
    (k__law_head : PySem.W.keepIn K (.ref f__law_head) = true)
    (a__law_thing : PySem.W.nsIn K mainGlobals "_law_thing" = some (some (.ref f__law_thing)))
    (l__law_thing : K.lookup f__law_thing = some ⟨oc__law_thing, od__law_thing, .func (PySem.W.fnOf "_law_thing" "_law_thing" (defArgs s__law_thing) (defBody s__law_thing) (defScope s__law_thing) .none kV__law_thing dc__law_thing pm__law_thing an__law_thing cd__law_thing ct__law_thing), sl__law_thing⟩)
    (c__law_thing : PySem.W.codeIn K cd__law_thing "_law_thing" = true)
    (k__law_thing : PySem.W.keepIn K (.ref f__law_thing) = true)
    (a__law_things : PySem.W.nsIn K mainGlobals "_law_things" = some (some (.ref f__law_things)))
    (l__law_things : K.lookup f__law_things = some ⟨oc__law_things, od__law_things, .func (PySem.W.fnOf "_law_things" "_law_things" (defArgs s__law_things) (defBody s__law_things) (defScope s__law_things) .none kV__law_things dc__law_things pm__law_things an__law_things cd__law_things ct__law_things), sl__law_things⟩)
    (c__law_things : PySem.W.codeIn K cd__law_things "_law_things" = true)
    (k__law_things : PySem.W.keepIn K (.ref f__law_things) = true)
    (a__law_places : PySem.W.nsIn K mainGlobals "_law_places" = some (some (.ref f__law_places)))
    (l__law_places : K.lookup f__law_places = some ⟨oc__law_places, od__law_places, .func (PySem.W.fnOf "_law_places" "_law_places" (defArgs s__law_places) (defBody s__law_places) (defScope s__law_places) .none kV__law_places dc__law_places pm__law_places an__law_places cd__law_places ct__law_places), sl__law_places⟩)
    (c__law_places : PySem.W.codeIn K cd__law_places "_law_places" = true)
    (k__law_places : PySem.W.keepIn K (.ref f__law_places) = true)
    (a__law_walk : PySem.W.nsIn K mainGlobals "_law_walk" = some (some (.ref f__law_walk)))
    (l__law_walk : K.lookup f__law_walk = some ⟨oc__law_walk, od__law_walk, .func (PySem.W.fnOf "_law_walk" "_law_walk" (defArgs s__law_walk) (defBody s__law_walk) (defScope s__law_walk) .none kV__law_walk dc__law_walk pm__law_walk an__law_walk cd__law_walk ct__law_walk), sl__law_walk⟩)
    (c__law_walk : PySem.W.codeIn K cd__law_walk "_law_walk" = true)
    (k__law_walk : PySem.W.keepIn K (.ref f__law_walk) = true)
    (a__law_paper : PySem.W.nsIn K mainGlobals "_law_paper" = some (some (.ref f__law_paper)))
    (l__law_paper : K.lookup f__law_paper = some ⟨oc__law_paper, od__law_paper, .func (PySem.W.fnOf "_law_paper" "_law_paper" (defArgs s__law_paper) (defBody s__law_paper) (defScope s__law_paper) .none kV__law_paper dc__law_paper pm__law_paper an__law_paper cd__law_paper ct__law_paper), sl__law_paper⟩)
    (c__law_paper : PySem.W.codeIn K cd__law_paper "_law_paper" = true)
    (k__law_paper : PySem.W.keepIn K (.ref f__law_paper) = true)
    (a__law_papers : PySem.W.nsIn K mainGlobals "_law_papers" = some (some (.ref f__law_papers)))
    (l__law_papers : K.lookup f__law_papers = some ⟨oc__law_papers, od__law_papers, .func (PySem.W.fnOf "_law_papers" "_law_papers" (defArgs s__law_papers) (defBody s__law_papers) (defScope s__law_papers) .none kV__law_papers dc__law_papers pm__law_papers an__law_papers cd__law_papers ct__law_papers), sl__law_papers⟩)
    (c__law_papers : PySem.W.codeIn K cd__law_papers "_law_papers" = true)
    (k__law_papers : PySem.W.keepIn K (.ref f__law_papers) = true)
    (a__law_last : PySem.W.nsIn K mainGlobals "_law_last" = some (some (.ref f__law_last)))
    (l__law_last : K.lookup f__law_last = some ⟨oc__law_last, od__law_last, .func (PySem.W.fnOf "_law_last" "_law_last" (defArgs s__law_last) (defBody s__law_last) (defScope s__law_last) .none kV__law_last dc__law_last pm__law_last an__law_last cd__law_last ct__law_last), sl__law_last⟩)
    (c__law_last : PySem.W.codeIn K cd__law_last "_law_last" = true)
    (k__law_last : PySem.W.keepIn K (.ref f__law_last) = true)
    (a__law_due_parts : PySem.W.nsIn K mainGlobals "_law_due_parts" = some (some (.ref f__law_due_parts)))
    (l__law_due_parts : K.lookup f__law_due_parts = some ⟨oc__law_due_parts, od__law_due_parts, .func (PySem.W.fnOf "_law_due_parts" "_law_due_parts" (defArgs s__law_due_parts) (defBody s__law_due_parts) (defScope s__law_due_parts) .none kV__law_due_parts dc__law_due_parts pm__law_due_parts an__law_due_parts cd__law_due_parts ct__law_due_parts), sl__law_due_parts⟩)
    (c__law_due_parts : PySem.W.codeIn K cd__law_due_parts "_law_due_parts" = true)
    (k__law_due_parts : PySem.W.keepIn K (.ref f__law_due_parts) = true)
    (a_law : PySem.W.nsIn K mainGlobals "law" = some (some (.ref f_law)))
    (l_law : K.lookup f_law = some ⟨oc_law, od_law, .func (PySem.W.fnOf "law" "law" (defArgs s_law) (defBody s_law) (defScope s_law) .none kV_law dc_law pm_law an_law cd_law ct_law), sl_law⟩)
    (c_law : PySem.W.codeIn K cd_law "law" = true)
    (k_law : PySem.W.keepIn K (.ref f_law) = true)
    (a_Mixing___init__ : PySem.W.findIn K (.ref C_Mixing) "__init__" = some (some (.ref f_Mixing___init__)))
    (i_Mixing___init__ : PySem.W.isFn K (.ref f_Mixing___init__) = true)
    (l_Mixing___init__ : K.lookup f_Mixing___init__ = some ⟨oc_Mixing___init__, od_Mixing___init__, .func (PySem.W.fnOf "__init__" "Mixing.__init__" (defArgs s_Mixing___init__) (defBody s_Mixing___init__) (defScope s_Mixing___init__) .none kV_Mixing___init__ dc_Mixing___init__ pm_Mixing___init__ an_Mixing___init__ cd_Mixing___init__ ct_Mixing___init__), sl_Mixing___init__⟩)
    (c_Mixing___init__ : PySem.W.codeIn K cd_Mixing___init__ "Mixing.__init__" = true)
    (k_Mixing___init__ : PySem.W.keepIn K (.ref f_Mixing___init__) = true)
    (a_Paper___init__ : PySem.W.findIn K (.ref C_Paper) "__init__" = some (some (.ref f_Paper___init__)))
    (i_Paper___init__ : PySem.W.isFn K (.ref f_Paper___init__) = true)
    (l_Paper___init__ : K.lookup f_Paper___init__ = some ⟨oc_Paper___init__, od_Paper___init__, .func (PySem.W.fnOf "__init__" "Paper.__init__" (defArgs s_Paper___init__) (defBody s_Paper___init__) (defScope s_Paper___init__) .none kV_Paper___init__ dc_Paper___init__ pm_Paper___init__ an_Paper___init__ cd_Paper___init__ ct_Paper___init__), sl_Paper___init__⟩)
    (c_Paper___init__ : PySem.W.codeIn K cd_Paper___init__ "Paper.__init__" = true)
    (k_Paper___init__ : PySem.W.keepIn K (.ref f_Paper___init__) = true)
    (a_Notebook___init__ : PySem.W.findIn K (.ref C_Notebook) "__init__" = some (some (.ref f_Notebook___init__)))
    (i_Notebook___init__ : PySem.W.isFn K (.ref f_Notebook___init__) = true)
    (l_Notebook___init__ : K.lookup f_Notebook___init__ = some ⟨oc_Notebook___init__, od_Notebook___init__, .func (PySem.W.fnOf "__init__" "Notebook.__init__" (defArgs s_Notebook___init__) (defBody s_Notebook___init__) (defScope s_Notebook___init__) .none kV_Notebook___init__ dc_Notebook___init__ pm_Notebook___init__ an_Notebook___init__ cd_Notebook___init__ ct_Notebook___init__), sl_Notebook___init__⟩)
    (c_Notebook___init__ : PySem.W.codeIn K cd_Notebook___init__ "Notebook.__init__" = true)
    (k_Notebook___init__ : PySem.W.keepIn K (.ref f_Notebook___init__) = true)
    (a_Notebook_note : PySem.W.findIn K (.ref C_Notebook) "note" = some (some (.ref f_Notebook_note)))
    (i_Notebook_note : PySem.W.isFn K (.ref f_Notebook_note) = true)
    (l_Notebook_note : K.lookup f_Notebook_note = some ⟨oc_Notebook_note, od_Notebook_note, .func (PySem.W.fnOf "note" "Notebook.note" (defArgs s_Notebook_note) (defBody s_Notebook_note) (defScope s_Notebook_note) .none kV_Notebook_note dc_Notebook_note pm_Notebook_note an_Notebook_note cd_Notebook_note ct_Notebook_note), sl_Notebook_note⟩)
    (c_Notebook_note : PySem.W.codeIn K cd_Notebook_note "Notebook.note" = true)
    (k_Notebook_note : PySem.W.keepIn K (.ref f_Notebook_note) = true)
    (a_Notebook_see : PySem.W.findIn K (.ref C_Notebook) "see" = some (some (.ref f_Notebook_see)))
    (i_Notebook_see : PySem.W.isFn K (.ref f_Notebook_see) = true)
    (l_Notebook_see : K.lookup f_Notebook_see = some ⟨oc_Notebook_see, od_Notebook_see, .func (PySem.W.fnOf "see" "Notebook.see" (defArgs s_Notebook_see) (defBody s_Notebook_see) (defScope s_Notebook_see) .none kV_Notebook_see dc_Notebook_see pm_Notebook_see an_Notebook_see cd_Notebook_see ct_Notebook_see), sl_Notebook_see⟩)
    (c_Notebook_see : PySem.W.codeIn K cd_Notebook_see "Notebook.see" = true)
    (k_Notebook_see : PySem.W.keepIn K (.ref f_Notebook_see) = true)
    (a_Notebook_has_noted : PySem.W.findIn K (.ref C_Notebook) "has_noted" = some (some (.ref f_Notebook_has_noted)))
    (i_Notebook_has_noted : PySem.W.isFn K (.ref f_Notebook_has_noted) = true)
    (l_Notebook_has_noted : K.lookup f_Notebook_has_noted = some ⟨oc_Notebook_has_noted, od_Notebook_has_noted, .func (PySem.W.fnOf "has_noted" "Notebook.has_noted" (defArgs s_Notebook_has_noted) (defBody s_Notebook_has_noted) (defScope s_Notebook_has_noted) .none kV_Notebook_has_noted dc_Notebook_has_noted pm_Notebook_has_noted an_Notebook_has_noted cd_Notebook_has_noted ct_Notebook_has_noted), sl_Notebook_has_noted⟩)
    (c_Notebook_has_noted : PySem.W.codeIn K cd_Notebook_has_noted "Notebook.has_noted" = true)
    (k_Notebook_has_noted : PySem.W.keepIn K (.ref f_Notebook_has_noted) = true)
    (a_Notebook_seen : PySem.W.findIn K (.ref C_Notebook) "seen" = some (some (.ref f_Notebook_seen)))
    (i_Notebook_seen : PySem.W.isFn K (.ref f_Notebook_seen) = true)
    (l_Notebook_seen : K.lookup f_Notebook_seen = some ⟨oc_Notebook_seen, od_Notebook_seen, .func (PySem.W.fnOf "seen" "Notebook.seen" (defArgs s_Notebook_seen) (defBody s_Notebook_seen) (defScope s_Notebook_seen) .none kV_Notebook_seen dc_Notebook_seen pm_Notebook_seen an_Notebook_seen cd_Notebook_seen ct_Notebook_seen), sl_Notebook_seen⟩)
    (c_Notebook_seen : PySem.W.codeIn K cd_Notebook_seen "Notebook.seen" = true)
    (k_Notebook_seen : PySem.W.keepIn K (.ref f_Notebook_seen) = true)
    (a_NotebookError___init__ : PySem.W.findIn K (.ref E_NotebookError) "__init__" = some (some (.ref f_NotebookError___init__)))
    (i_NotebookError___init__ : PySem.W.typeIn K (.ref f_NotebookError___init__) = some (.type "function"))
    (l_NotebookError___init__ : K.lookup f_NotebookError___init__ = some ⟨oc_NotebookError___init__, od_NotebookError___init__, .func (PySem.W.fnOf "__init__" "NotebookError.__init__" (defArgs s_NotebookError___init__) (defBody s_NotebookError___init__) (defScope s_NotebookError___init__) .none kV_NotebookError___init__ dc_NotebookError___init__ pm_NotebookError___init__ an_NotebookError___init__ cd_NotebookError___init__ ct_NotebookError___init__), sl_NotebookError___init__⟩)
    (c_NotebookError___init__ : PySem.W.codeIn K cd_NotebookError___init__ "NotebookError.__init__" = true)
    (k_NotebookError___init__ : PySem.W.keepIn K (.ref f_NotebookError___init__) = true)
    (pg_Mixing : PySem.W.plainGet K C_Mixing Str.empty = true)
    (hd_Mixing : PySem.W.hasDictIn K C_Mixing = true)
    (po_Mixing : PySem.W.plainOver K C_Mixing = true)
    (sa_Mixing : PySem.W.findIn K (.ref C_Mixing) "__setattr__" = some (some (.builtin "object.__setattr__")))
    (mk_Mixing : PySem.W.makesIn K C_Mixing = true)
    (kc_Mixing : PySem.W.keepIn K (.ref C_Mixing) = true)
    (n_Mixing_bound : PySem.W.findIn K (.ref C_Mixing) "bound" = some none)
    (n_Mixing_factor : PySem.W.findIn K (.ref C_Mixing) "factor" = some none)
    (pg_Paper : PySem.W.plainGet K C_Paper Str.empty = true)
    (hd_Paper : PySem.W.hasDictIn K C_Paper = true)
    (po_Paper : PySem.W.plainOver K C_Paper = true)
    (sa_Paper : PySem.W.findIn K (.ref C_Paper) "__setattr__" = some (some (.builtin "object.__setattr__")))
    (mk_Paper : PySem.W.makesIn K C_Paper = true)
    (kc_Paper : PySem.W.keepIn K (.ref C_Paper) = true)
    (n_Paper_first : PySem.W.findIn K (.ref C_Paper) "first" = some none)
    (n_Paper_steps : PySem.W.findIn K (.ref C_Paper) "steps" = some none)
    (pg_Notebook : PySem.W.plainGet K C_Notebook Str.empty = true)
    (hd_Notebook : PySem.W.hasDictIn K C_Notebook = true)
    (po_Notebook : PySem.W.plainOver K C_Notebook = true)
    (sa_Notebook : PySem.W.findIn K (.ref C_Notebook) "__setattr__" = some (some (.builtin "object.__setattr__")))
    (mk_Notebook : PySem.W.makesIn K C_Notebook = true)
    (kc_Notebook : PySem.W.keepIn K (.ref C_Notebook) = true)
    (n_Notebook__beacons : PySem.W.findIn K (.ref C_Notebook) "_beacons" = some none)
    (n_Notebook__hours : PySem.W.findIn K (.ref C_Notebook) "_hours" = some none)
    (n_Notebook__last_hour : PySem.W.findIn K (.ref C_Notebook) "_last_hour" = some none)
    (n_Notebook_mixing : PySem.W.findIn K (.ref C_Notebook) "mixing" = some none)
    (z_abs : PySem.W.nsIn K mainGlobals "abs" = some none)
    (z_bool : PySem.W.nsIn K mainGlobals "bool" = some none)
    (z_enumerate : PySem.W.nsIn K mainGlobals "enumerate" = some none)
    (z_int : PySem.W.nsIn K mainGlobals "int" = some none)
    (z_isinstance : PySem.W.nsIn K mainGlobals "isinstance" = some none)
    (z_len : PySem.W.nsIn K mainGlobals "len" = some none)
    (z_list : PySem.W.nsIn K mainGlobals "list" = some none)
    (z_max : PySem.W.nsIn K mainGlobals "max" = some none)
    (z_min : PySem.W.nsIn K mainGlobals "min" = some none)
    (z_range : PySem.W.nsIn K mainGlobals "range" = some none)
    (z_str : PySem.W.nsIn K mainGlobals "str" = some none)
    (z_tuple : PySem.W.nsIn K mainGlobals "tuple" = some none)
    (z_zip : PySem.W.nsIn K mainGlobals "zip" = some none)
    (v_PRIME : PySem.W.nsIn K mainGlobals "PRIME" = some (some (.int 2305843009213693951 t_PRIME)))
    (v_BEACON : PySem.W.nsIn K mainGlobals "BEACON" = some (some (.int 1 t_BEACON)))
    (v_DOCUMENT : PySem.W.nsIn K mainGlobals "DOCUMENT" = some (some (.int 2 t_DOCUMENT)))
    (v_HEAD : PySem.W.nsIn K mainGlobals "HEAD" = some (some (.int 4 t_HEAD)))
    (v_RENEWAL : PySem.W.nsIn K mainGlobals "RENEWAL" = some (some (.int 5 t_RENEWAL)))
    (v_NODE : PySem.W.nsIn K mainGlobals "NODE" = some (some (.int 3 t_NODE)))
    (v_CITE : PySem.W.nsIn K mainGlobals "CITE" = some (some (.str "cite" t_CITE)))
    (v_BACK : PySem.W.nsIn K mainGlobals "BACK" = some (some (.str "back" t_BACK)))
    (v_ENTRY : PySem.W.nsIn K mainGlobals "ENTRY" = some (some (.str "entry" t_ENTRY)))
    : ∃ fd : FuncData, (∀ (s : Shared) (v : Value), BindsTo s fd ⟨[v], []⟩ [("script", v)]) ∧ ∀ base : Heap, K.In base → base.Ns mainGlobals mg → FnOk l.prog w K mg base CX0 30 fa fd ["script"] (sp_law K) := by
  have e := hfa.symm.trans (PySem.W.mg_of X G a_law)
  cases e
  have F_digest := fun_mk (st := s_digest) l_digest c_digest k_digest
  have b_digest := F_digest.binds (ps := ["mixing", "row"]) fun _ _ _ _ _ _ us hl => match us, hl with | [_, _], _ => rfl
  have F__mixed := fun_mk (st := s__mixed) l__mixed c__mixed k__mixed
  have b__mixed := F__mixed.binds (ps := ["mixing", "state", "number"]) fun _ _ _ _ _ _ us hl => match us, hl with | [_, _, _], _ => rfl
  have F_is_thing := fun_mk (st := s_is_thing) l_is_thing c_is_thing k_is_thing
  have b_is_thing := F_is_thing.binds (ps := ["row"]) fun _ _ _ _ _ _ us hl => match us, hl with | [_], _ => rfl
  have F__is_document := fun_mk (st := s__is_document) l__is_document c__is_document k__is_document
  have b__is_document := F__is_document.binds (ps := ["row"]) fun _ _ _ _ _ _ us hl => match us, hl with | [_], _ => rfl
  have F__is_head := fun_mk (st := s__is_head) l__is_head c__is_head k__is_head
  have b__is_head := F__is_head.binds (ps := ["row"]) fun _ _ _ _ _ _ us hl => match us, hl with | [_], _ => rfl
  have F_is_thing_of := fun_mk (st := s_is_thing_of) l_is_thing_of c_is_thing_of k_is_thing_of
  have b_is_thing_of := F_is_thing_of.binds (ps := ["row", "kind"]) fun _ _ _ _ _ _ us hl => match us, hl with | [_, _], _ => rfl
  have F_kind_of := fun_mk (st := s_kind_of) l_kind_of c_kind_of k_kind_of
  have b_kind_of := F_kind_of.binds (ps := ["row"]) fun _ _ _ _ _ _ us hl => match us, hl with | [_], _ => rfl
  have F__back_count := fun_mk (st := s__back_count) l__back_count c__back_count k__back_count
  have b__back_count := F__back_count.binds (ps := ["number"]) fun _ _ _ _ _ _ us hl => match us, hl with | [_], _ => rfl
  have F__greatest_step := fun_mk (st := s__greatest_step) l__greatest_step c__greatest_step k__greatest_step
  have b__greatest_step := F__greatest_step.binds (ps := ["number"]) fun _ _ _ _ _ _ us hl => match us, hl with | [_], _ => rfl
  have F__first_count := fun_mk (st := s__first_count) l__first_count c__first_count k__first_count
  have b__first_count := F__first_count.binds (ps := ["count"]) fun _ _ _ _ _ _ us hl => match us, hl with | [_], _ => rfl
  have F_turns := fun_mk (st := s_turns) l_turns c_turns k_turns
  have b_turns := F_turns.binds (ps := ["count", "index"]) fun _ _ _ _ _ _ us hl => match us, hl with | [_, _], _ => rfl
  have F_climb := fun_mk (st := s_climb) l_climb c_climb k_climb
  have b_climb := F_climb.binds (ps := ["mixing", "count", "index", "entry", "way"]) fun _ _ _ _ _ _ us hl => match us, hl with | [_, _, _, _, _], _ => rfl
  have F__nodes_up := fun_mk (st := s__nodes_up) l__nodes_up c__nodes_up k__nodes_up
  have b__nodes_up := F__nodes_up.binds (ps := ["mixing", "count", "index", "entry", "way"]) fun _ _ _ _ _ _ us hl => match us, hl with | [_, _, _, _, _], _ => rfl
  have F_listed := fun_mk (st := s_listed) l_listed c_listed k_listed
  have b_listed := F_listed.binds (ps := ["row", "word"]) fun _ _ _ _ _ _ us hl => match us, hl with | [_, _], _ => rfl
  have F_has_place := fun_mk (st := s_has_place) l_has_place c_has_place k_has_place
  have b_has_place := F_has_place.binds (ps := ["row", "place"]) fun _ _ _ _ _ _ us hl => match us, hl with | [_, _], _ => rfl
  have F_held_at := fun_mk (st := s_held_at) l_held_at c_held_at k_held_at
  have b_held_at := F_held_at.binds (ps := ["mixing", "row", "place"]) fun _ _ _ _ _ _ us hl => match us, hl with | [_, _, _], _ => rfl
  have F_holds := fun_mk (st := s_holds) l_holds c_holds k_holds
  have b_holds := F_holds.binds (ps := ["mixing", "row", "place", "digest"]) fun _ _ _ _ _ _ us hl => match us, hl with | [_, _, _, _], _ => rfl
  have F_is_right_round := fun_mk (st := s_is_right_round) l_is_right_round c_is_right_round k_is_right_round
  have b_is_right_round := F_is_right_round.binds (ps := ["before", "row", "place"]) fun _ _ _ _ _ _ us hl => match us, hl with | [_, _, _], _ => rfl
  have F_is_accepted := fun_mk (st := s_is_accepted) l_is_accepted c_is_accepted k_is_accepted
  have b_is_accepted := F_is_accepted.binds (ps := ["mixing", "paper"]) fun _ _ _ _ _ _ us hl => match us, hl with | [_, _], _ => rfl
  have F__first_fault := fun_mk (st := s__first_fault) l__first_fault c__first_fault k__first_fault
  have b__first_fault := F__first_fault.binds (ps := ["mixing", "paper"]) fun _ _ _ _ _ _ us hl => match us, hl with | [_, _], _ => rfl
  have F__fault_of_step := fun_mk (st := s__fault_of_step) l__fault_of_step c__fault_of_step k__fault_of_step
  have b__fault_of_step := F__fault_of_step.binds (ps := ["mixing", "before", "row", "place"]) fun _ _ _ _ _ _ us hl => match us, hl with | [_, _, _, _], _ => rfl
  have F_rows_of := fun_mk (st := s_rows_of) l_rows_of c_rows_of k_rows_of
  have b_rows_of := F_rows_of.binds (ps := ["paper"]) fun _ _ _ _ _ _ us hl => match us, hl with | [_], _ => rfl
  have F_joined := fun_mk (st := s_joined) l_joined c_joined k_joined
  have b_joined := F_joined.binds (ps := ["one", "two"]) fun _ _ _ _ _ _ us hl => match us, hl with | [_, _], _ => rfl
  have F_window := fun_mk (st := s_window) l_window c_window k_window
  have b_window := F_window.binds (ps := ["notebook", "row", "papers"]) fun _ _ _ _ _ _ us hl => match us, hl with | [_, _, _], _ => rfl
  have F_foretold := fun_mk (st := s_foretold) l_foretold c_foretold k_foretold
  have b_foretold := F_foretold.binds (ps := ["notebook", "row", "papers"]) fun _ _ _ _ _ _ us hl => match us, hl with | [_, _, _], _ => rfl
  have F__window_of := fun_mk (st := s__window_of) l__window_of c__window_of k__window_of
  have b__window_of := F__window_of.binds (ps := ["earlier", "later"]) fun _ _ _ _ _ _ us hl => match us, hl with | [_, _], _ => rfl
  have F__from_beacons := fun_mk (st := s__from_beacons) l__from_beacons c__from_beacons k__from_beacons
  have b__from_beacons := F__from_beacons.binds (ps := ["notebook", "row", "papers"]) fun _ _ _ _ _ _ us hl => match us, hl with | [_, _, _], _ => rfl
  have F__to_heads := fun_mk (st := s__to_heads) l__to_heads c__to_heads k__to_heads
  have b__to_heads := F__to_heads.binds (ps := ["notebook", "row", "papers"]) fun _ _ _ _ _ _ us hl => match us, hl with | [_, _, _], _ => rfl
  have F__first_of_hour := fun_mk (st := s__first_of_hour) l__first_of_hour c__first_of_hour k__first_of_hour
  have b__first_of_hour := F__first_of_hour.binds (ps := ["hour", "found"]) fun _ _ _ _ _ _ us hl => match us, hl with | [_, _], _ => rfl
  have F__law_cell := fun_mk (st := s__law_cell) l__law_cell c__law_cell k__law_cell
  have b__law_cell := F__law_cell.binds (ps := ["script", "k"]) fun _ _ _ _ _ _ us hl => match us, hl with | [_, _], _ => rfl
  have F__law_row := fun_mk (st := s__law_row) l__law_row c__law_row k__law_row
  have b__law_row := F__law_row.binds (ps := ["script", "first", "last"]) fun _ _ _ _ _ _ us hl => match us, hl with | [_, _, _], _ => rfl
  have F__law_draw := fun_mk (st := s__law_draw) l__law_draw c__law_draw k__law_draw
  have b__law_draw := F__law_draw.binds (ps := ["box", "many"]) fun _ _ _ _ _ _ us hl => match us, hl with | [_, _], _ => rfl
  have F__law_is_integer := fun_mk (st := s__law_is_integer) l__law_is_integer c__law_is_integer k__law_is_integer
  have b__law_is_integer := F__law_is_integer.binds (ps := ["told"]) fun _ _ _ _ _ _ us hl => match us, hl with | [_], _ => rfl
  have F__law_same := fun_mk (st := s__law_same) l__law_same c__law_same k__law_same
  have b__law_same := F__law_same.binds (ps := ["told", "due"]) fun _ _ _ _ _ _ us hl => match us, hl with | [_, _], _ => rfl
  have F__law_mix := fun_mk (st := s__law_mix) l__law_mix c__law_mix k__law_mix
  have b__law_mix := F__law_mix.binds (ps := ["box"]) fun _ _ _ _ _ _ us hl => match us, hl with | [_], _ => rfl
  have F__law_digest := fun_mk (st := s__law_digest) l__law_digest c__law_digest k__law_digest
  have b__law_digest := F__law_digest.binds (ps := ["mix", "row"]) fun _ _ _ _ _ _ us hl => match us, hl with | [_, _], _ => rfl
  have F__law_half := fun_mk (st := s__law_half) l__law_half c__law_half k__law_half
  have b__law_half := F__law_half.binds (ps := ["count"]) fun _ _ _ _ _ _ us hl => match us, hl with | [_], _ => rfl
  have F__law_root := fun_mk (st := s__law_root) l__law_root c__law_root k__law_root
  have b__law_root := F__law_root.binds (ps := ["mix", "entries"]) fun _ _ _ _ _ _ us hl => match us, hl with | [_, _], _ => rfl
  have F__law_way := fun_mk (st := s__law_way) l__law_way c__law_way k__law_way
  have b__law_way := F__law_way.binds (ps := ["mix", "entries", "index"]) fun _ _ _ _ _ _ us hl => match us, hl with | [_, _, _], _ => rfl
  have F__law_backs := fun_mk (st := s__law_backs) l__law_backs c__law_backs k__law_backs
  have b__law_backs := F__law_backs.binds (ps := ["number"]) fun _ _ _ _ _ _ us hl => match us, hl with | [_], _ => rfl
  have F__law_pool := fun_mk (st := s__law_pool) l__law_pool c__law_pool k__law_pool
  have b__law_pool := F__law_pool.binds (ps := ["box", "mix", "things"]) fun _ _ _ _ _ _ us hl => match us, hl with | [_, _, _], _ => rfl
  have F__law_pick := fun_mk (st := s__law_pick) l__law_pick c__law_pick k__law_pick
  have b__law_pick := F__law_pick.binds (ps := ["box", "numbers"]) fun _ _ _ _ _ _ us hl => match us, hl with | [_, _], _ => rfl
  have F__law_head := fun_mk (st := s__law_head) l__law_head c__law_head k__law_head
  have b__law_head := F__law_head.binds (ps := ["box", "mix", "things", "numbers"]) fun _ _ _ _ _ _ us hl => match us, hl with | [_, _, _, _], _ => rfl
  have F__law_thing := fun_mk (st := s__law_thing) l__law_thing c__law_thing k__law_thing
  have b__law_thing := F__law_thing.binds (ps := ["box", "mix", "things"]) fun _ _ _ _ _ _ us hl => match us, hl with | [_, _, _], _ => rfl
  have F__law_things := fun_mk (st := s__law_things) l__law_things c__law_things k__law_things
  have b__law_things := F__law_things.binds (ps := ["box", "mix", "many"]) fun _ _ _ _ _ _ us hl => match us, hl with | [_, _, _], _ => rfl
  have F__law_places := fun_mk (st := s__law_places) l__law_places c__law_places k__law_places
  have b__law_places := F__law_places.binds (ps := ["mix", "thing", "before"]) fun _ _ _ _ _ _ us hl => match us, hl with | [_, _, _], _ => rfl
  have F__law_walk := fun_mk (st := s__law_walk) l__law_walk c__law_walk k__law_walk
  have b__law_walk := F__law_walk.binds (ps := ["box", "mix", "things", "first", "many"]) fun _ _ _ _ _ _ us hl => match us, hl with | [_, _, _, _, _], _ => rfl
  have F__law_paper := fun_mk (st := s__law_paper) l__law_paper c__law_paper k__law_paper
  have b__law_paper := F__law_paper.binds (ps := ["first", "steps"]) fun _ _ _ _ _ _ us hl => match us, hl with | [_, _], _ => rfl
  have F__law_papers := fun_mk (st := s__law_papers) l__law_papers c__law_papers k__law_papers
  have b__law_papers := F__law_papers.binds (ps := ["box", "mix", "things", "wanted"]) fun _ _ _ _ _ _ us hl => match us, hl with | [_, _, _, _], _ => rfl
  have F__law_last := fun_mk (st := s__law_last) l__law_last c__law_last k__law_last
  have b__law_last := F__law_last.binds (ps := ["shown"]) fun _ _ _ _ _ _ us hl => match us, hl with | [_], _ => rfl
  have F__law_due_parts := fun_mk (st := s__law_due_parts) l__law_due_parts c__law_due_parts k__law_due_parts
  have b__law_due_parts := F__law_due_parts.binds (ps := ["mixing", "beacons", "heads", "row", "shown"]) fun _ _ _ _ _ _ us hl => match us, hl with | [_, _, _, _, _], _ => rfl
  have F_law := fun_mk (st := s_law) l_law c_law k_law
  have F_Mixing___init__ := fun_mk (st := s_Mixing___init__) l_Mixing___init__ c_Mixing___init__ k_Mixing___init__
  have b_Mixing___init__ := F_Mixing___init__.binds (ps := ["self", "bound", "factor"]) fun _ _ _ _ _ _ us hl => match us, hl with | [_, _, _], _ => rfl
  have F_Paper___init__ := fun_mk (st := s_Paper___init__) l_Paper___init__ c_Paper___init__ k_Paper___init__
  have b_Paper___init__ := F_Paper___init__.binds (ps := ["self", "first", "steps"]) fun _ _ _ _ _ _ us hl => match us, hl with | [_, _, _], _ => rfl
  have F_Notebook___init__ := fun_mk (st := s_Notebook___init__) l_Notebook___init__ c_Notebook___init__ k_Notebook___init__
  have b_Notebook___init__ := F_Notebook___init__.binds (ps := ["self", "mixing"]) fun _ _ _ _ _ _ us hl => match us, hl with | [_, _], _ => rfl
  have F_Notebook_note := fun_mk (st := s_Notebook_note) l_Notebook_note c_Notebook_note k_Notebook_note
  have b_Notebook_note := F_Notebook_note.binds (ps := ["self", "row"]) fun _ _ _ _ _ _ us hl => match us, hl with | [_, _], _ => rfl
  have F_Notebook_see := fun_mk (st := s_Notebook_see) l_Notebook_see c_Notebook_see k_Notebook_see
  have b_Notebook_see := F_Notebook_see.binds (ps := ["self", "row", "hour"]) fun _ _ _ _ _ _ us hl => match us, hl with | [_, _, _], _ => rfl
  have F_Notebook_has_noted := fun_mk (st := s_Notebook_has_noted) l_Notebook_has_noted c_Notebook_has_noted k_Notebook_has_noted
  have b_Notebook_has_noted := F_Notebook_has_noted.binds (ps := ["self", "row"]) fun _ _ _ _ _ _ us hl => match us, hl with | [_, _], _ => rfl
  have F_Notebook_seen := fun_mk (st := s_Notebook_seen) l_Notebook_seen c_Notebook_seen k_Notebook_seen
  have b_Notebook_seen := F_Notebook_seen.binds (ps := ["self", "row"]) fun _ _ _ _ _ _ us hl => match us, hl with | [_, _], _ => rfl
  have F_NotebookError___init__ := fun_mk (st := s_NotebookError___init__) l_NotebookError___init__ c_NotebookError___init__ k_NotebookError___init__
  have b_NotebookError___init__ := F_NotebookError___init__.binds (ps := ["self", "reason"]) fun _ _ _ _ _ _ us hl => match us, hl with | [_, _], _ => rfl
  refine ⟨PySem.W.fnOf "law" "law" (defArgs s_law) (defBody s_law) (defScope s_law) .none kV_law dc_law pm_law an_law cd_law ct_law, fun s v => .of_eq rfl, fun base _ _ => ?_⟩
  have T : Txt l.prog w K mg base := { b_abs := PySem.W.mg_none_of X G z_abs, b_bool := PySem.W.mg_none_of X G z_bool, b_enumerate := PySem.W.mg_none_of X G z_enumerate, b_int := PySem.W.mg_none_of X G z_int, b_isinstance := PySem.W.mg_none_of X G z_isinstance, b_len := PySem.W.mg_none_of X G z_len, b_list := PySem.W.mg_none_of X G z_list, b_max := PySem.W.mg_none_of X G z_max, b_min := PySem.W.mg_none_of X G z_min, b_range := PySem.W.mg_none_of X G z_range, b_str := PySem.W.mg_none_of X G z_str, b_tuple := PySem.W.mg_none_of X G z_tuple, b_zip := PySem.W.mg_none_of X G z_zip, c_PRIME := ⟨t_PRIME, PySem.W.mg_of X G v_PRIME⟩, c_BEACON := ⟨t_BEACON, PySem.W.mg_of X G v_BEACON⟩, c_DOCUMENT := ⟨t_DOCUMENT, PySem.W.mg_of X G v_DOCUMENT⟩, c_HEAD := ⟨t_HEAD, PySem.W.mg_of X G v_HEAD⟩, c_RENEWAL := ⟨t_RENEWAL, PySem.W.mg_of X G v_RENEWAL⟩, c_NODE := ⟨t_NODE, PySem.W.mg_of X G v_NODE⟩, c_CITE := ⟨t_CITE, PySem.W.mg_of X G v_CITE⟩, c_BACK := ⟨t_BACK, PySem.W.mg_of X G v_BACK⟩, c_ENTRY := ⟨t_ENTRY, PySem.W.mg_of X G v_ENTRY⟩, E_SealError := E_SealError, mg_SealError := PySem.W.mg_of X G aE_SealError, eb_SealError := ⟨eX_SealError, eH_SealError, eT_SealError⟩, E_NotebookError := E_NotebookError, mg_NotebookError := PySem.W.mg_of X G aE_NotebookError, eb_NotebookError := ⟨eX_NotebookError, eH_NotebookError, eT_NotebookError⟩, nf_NotebookError_reason := eN_NotebookError_reason, ec_NotebookError := ⟨⟨⟨nm_NotebookError, q_NotebookError, N_NotebookError, bs_NotebookError, _, sn_NotebookError, sub_NotebookError, ab_NotebookError, col_NotebookError, dd_NotebookError, m0_NotebookError, m1_NotebookError, m2_NotebookError, m3_NotebookError, m5_NotebookError, eL_NotebookError, rfl⟩, eS_NotebookError, eX_NotebookError, eT_NotebookError, eK_NotebookError⟩, ⟨eG_NotebookError, eA_NotebookError, eX_NotebookError, eH_NotebookError⟩, (by obtain ⟨cd, hc, _⟩ := PySem.W.any_some eH_NotebookError; rw [hc]; rfl), eC_NotebookError, eget, etk, eM_NotebookError⟩, i_NotebookError := ⟨_, _, a_NotebookError___init__, i_NotebookError___init__, F_NotebookError___init__, b_NotebookError___init__⟩, up_NotebookError_NotebookError := eU_NotebookError_NotebookError, up_NotebookError_SealError := eU_NotebookError_SealError, d_digest := ⟨_, _, F_digest, PySem.W.mg_of X G a_digest, b_digest⟩, d__mixed := ⟨_, _, F__mixed, PySem.W.mg_of X G a__mixed, b__mixed⟩, d_is_thing := ⟨_, _, F_is_thing, PySem.W.mg_of X G a_is_thing, b_is_thing⟩, d__is_document := ⟨_, _, F__is_document, PySem.W.mg_of X G a__is_document, b__is_document⟩, d__is_head := ⟨_, _, F__is_head, PySem.W.mg_of X G a__is_head, b__is_head⟩, d_is_thing_of := ⟨_, _, F_is_thing_of, PySem.W.mg_of X G a_is_thing_of, b_is_thing_of⟩, d_kind_of := ⟨_, _, F_kind_of, PySem.W.mg_of X G a_kind_of, b_kind_of⟩, d__back_count := ⟨_, _, F__back_count, PySem.W.mg_of X G a__back_count, b__back_count⟩, d__greatest_step := ⟨_, _, F__greatest_step, PySem.W.mg_of X G a__greatest_step, b__greatest_step⟩, d__first_count := ⟨_, _, F__first_count, PySem.W.mg_of X G a__first_count, b__first_count⟩, d_turns := ⟨_, _, F_turns, PySem.W.mg_of X G a_turns, b_turns⟩, d_climb := ⟨_, _, F_climb, PySem.W.mg_of X G a_climb, b_climb⟩, d__nodes_up := ⟨_, _, F__nodes_up, PySem.W.mg_of X G a__nodes_up, b__nodes_up⟩, d_listed := ⟨_, _, F_listed, PySem.W.mg_of X G a_listed, b_listed⟩, d_has_place := ⟨_, _, F_has_place, PySem.W.mg_of X G a_has_place, b_has_place⟩, d_held_at := ⟨_, _, F_held_at, PySem.W.mg_of X G a_held_at, b_held_at⟩, d_holds := ⟨_, _, F_holds, PySem.W.mg_of X G a_holds, b_holds⟩, d_is_right_round := ⟨_, _, F_is_right_round, PySem.W.mg_of X G a_is_right_round, b_is_right_round⟩, d_is_accepted := ⟨_, _, F_is_accepted, PySem.W.mg_of X G a_is_accepted, b_is_accepted⟩, d__first_fault := ⟨_, _, F__first_fault, PySem.W.mg_of X G a__first_fault, b__first_fault⟩, d__fault_of_step := ⟨_, _, F__fault_of_step, PySem.W.mg_of X G a__fault_of_step, b__fault_of_step⟩, d_rows_of := ⟨_, _, F_rows_of, PySem.W.mg_of X G a_rows_of, b_rows_of⟩, d_joined := ⟨_, _, F_joined, PySem.W.mg_of X G a_joined, b_joined⟩, d_window := ⟨_, _, F_window, PySem.W.mg_of X G a_window, b_window⟩, d_foretold := ⟨_, _, F_foretold, PySem.W.mg_of X G a_foretold, b_foretold⟩, d__window_of := ⟨_, _, F__window_of, PySem.W.mg_of X G a__window_of, b__window_of⟩, d__from_beacons := ⟨_, _, F__from_beacons, PySem.W.mg_of X G a__from_beacons, b__from_beacons⟩, d__to_heads := ⟨_, _, F__to_heads, PySem.W.mg_of X G a__to_heads, b__to_heads⟩, d__first_of_hour := ⟨_, _, F__first_of_hour, PySem.W.mg_of X G a__first_of_hour, b__first_of_hour⟩, d__law_cell := ⟨_, _, F__law_cell, PySem.W.mg_of X G a__law_cell, b__law_cell⟩, d__law_row := ⟨_, _, F__law_row, PySem.W.mg_of X G a__law_row, b__law_row⟩, d__law_draw := ⟨_, _, F__law_draw, PySem.W.mg_of X G a__law_draw, b__law_draw⟩, d__law_is_integer := ⟨_, _, F__law_is_integer, PySem.W.mg_of X G a__law_is_integer, b__law_is_integer⟩, d__law_same := ⟨_, _, F__law_same, PySem.W.mg_of X G a__law_same, b__law_same⟩, d__law_mix := ⟨_, _, F__law_mix, PySem.W.mg_of X G a__law_mix, b__law_mix⟩, d__law_digest := ⟨_, _, F__law_digest, PySem.W.mg_of X G a__law_digest, b__law_digest⟩, d__law_half := ⟨_, _, F__law_half, PySem.W.mg_of X G a__law_half, b__law_half⟩, d__law_root := ⟨_, _, F__law_root, PySem.W.mg_of X G a__law_root, b__law_root⟩, d__law_way := ⟨_, _, F__law_way, PySem.W.mg_of X G a__law_way, b__law_way⟩, d__law_backs := ⟨_, _, F__law_backs, PySem.W.mg_of X G a__law_backs, b__law_backs⟩, d__law_pool := ⟨_, _, F__law_pool, PySem.W.mg_of X G a__law_pool, b__law_pool⟩, d__law_pick := ⟨_, _, F__law_pick, PySem.W.mg_of X G a__law_pick, b__law_pick⟩, d__law_head := ⟨_, _, F__law_head, PySem.W.mg_of X G a__law_head, b__law_head⟩, d__law_thing := ⟨_, _, F__law_thing, PySem.W.mg_of X G a__law_thing, b__law_thing⟩, d__law_things := ⟨_, _, F__law_things, PySem.W.mg_of X G a__law_things, b__law_things⟩, d__law_places := ⟨_, _, F__law_places, PySem.W.mg_of X G a__law_places, b__law_places⟩, d__law_walk := ⟨_, _, F__law_walk, PySem.W.mg_of X G a__law_walk, b__law_walk⟩, d__law_paper := ⟨_, _, F__law_paper, PySem.W.mg_of X G a__law_paper, b__law_paper⟩, d__law_papers := ⟨_, _, F__law_papers, PySem.W.mg_of X G a__law_papers, b__law_papers⟩, d__law_last := ⟨_, _, F__law_last, PySem.W.mg_of X G a__law_last, b__law_last⟩, d__law_due_parts := ⟨_, _, F__law_due_parts, PySem.W.mg_of X G a__law_due_parts, b__law_due_parts⟩, C_Mixing := C_Mixing, cl_Mixing := ⟨pg_Mixing, hd_Mixing, po_Mixing, sa_Mixing⟩, mg_Mixing := PySem.W.mg_of X G aC_Mixing, na_Mixing_bound := n_Mixing_bound, na_Mixing_factor := n_Mixing_factor, mk_Mixing := ⟨_, _, ⟨mk_Mixing, a_Mixing___init__, i_Mixing___init__, kc_Mixing⟩, F_Mixing___init__, b_Mixing___init__⟩, C_Paper := C_Paper, cl_Paper := ⟨pg_Paper, hd_Paper, po_Paper, sa_Paper⟩, mg_Paper := PySem.W.mg_of X G aC_Paper, na_Paper_first := n_Paper_first, na_Paper_steps := n_Paper_steps, mk_Paper := ⟨_, _, ⟨mk_Paper, a_Paper___init__, i_Paper___init__, kc_Paper⟩, F_Paper___init__, b_Paper___init__⟩, C_Notebook := C_Notebook, cl_Notebook := ⟨pg_Notebook, hd_Notebook, po_Notebook, sa_Notebook⟩, mg_Notebook := PySem.W.mg_of X G aC_Notebook, na_Notebook__beacons := n_Notebook__beacons, na_Notebook__hours := n_Notebook__hours, na_Notebook__last_hour := n_Notebook__last_hour, na_Notebook_mixing := n_Notebook_mixing, mk_Notebook := ⟨_, _, ⟨mk_Notebook, a_Notebook___init__, i_Notebook___init__, kc_Notebook⟩, F_Notebook___init__, b_Notebook___init__⟩, m_Notebook_note := ⟨_, _, ⟨a_Notebook_note, i_Notebook_note, k_Notebook_note⟩, F_Notebook_note, b_Notebook_note⟩, m_Notebook_see := ⟨_, _, ⟨a_Notebook_see, i_Notebook_see, k_Notebook_see⟩, F_Notebook_see, b_Notebook_see⟩, m_Notebook_has_noted := ⟨_, _, ⟨a_Notebook_has_noted, i_Notebook_has_noted, k_Notebook_has_noted⟩, F_Notebook_has_noted, b_Notebook_has_noted⟩, m_Notebook_seen := ⟨_, _, ⟨a_Notebook_seen, i_Notebook_seen, k_Notebook_seen⟩, F_Notebook_seen, b_Notebook_seen⟩ }
  exact fn_law T F_law
theorem walk {l : PySem.W.OpenLaw} {q : Program} {loose : List Str} {XP : (Str → Option Value) → Heap → Prop} {YP : World → Heap → Prop} {d : DefRec} {K : Params → PySem.W.Frag} (hn : l.most = some 63) (hdf : d.params.defaults = []) (hY : ∀ (w : World) (h : Heap), YP w h → (K w.params).In h)
    (F : ∀ (w : World) (mg : Str → Option Value) (fa : Addr) (h : Heap), (K w.params).In h → h.Ns mainGlobals mg → mg d.name = some (.ref fa) →
      ∃ fd : FuncData, (∀ (s : Shared) (u : Value), BindsTo s fd ⟨[u], []⟩ [("script", u)]) ∧ ∀ base : Heap, (K w.params).In base → base.Ns mainGlobals mg → FnOk l.prog w (K w.params) mg base CX0 30 fa fd ["script"] (sp_law (K w.params))) :
    PySem.W.WalkO q loose XP YP l.row.toRowW d [] (fun f vs => PySem.call f vs) :=
  L2.walk_of (n := 63) (k := 30) (x := "script") (CX := fun _ => CX0) (sp := fun w => sp_law (K w.params)) hn (by decide) hdf ⟨rfl, by decide, by decide⟩ hY F (fun _ _ a ns hl _ hS => ⟨a, ns, rfl, hS, hl, fun _ => rfl⟩) fun _ _ _ _ _ z => z
end Law
open PySem PySem.W PyProof.Rows in
set_option maxRecDepth 100000 in
set_option maxHeartbeats 0 in
theorem PySem.Challenge.cw_sealround_k55_windows_holds : PySem.Challenge.rw_sealround_k55_windows.Holds := by
  w_on; o_law; k_head; (case hw => w_witness2)
  k_fill
  refine Law.walk (l := PySem.Challenge.rw_sealround_k55_windows) rfl rfl (fun w h Y => PySem.W.kIn_of Y) ?F
  case F =>
    intro w mg fa h KX G hmg
    refine' Law.all_mk KX G hmg ?aE_SealError ?aE_NotebookError ?eX_SealError ?eH_SealError ?eT_SealError ?eX_NotebookError ?eH_NotebookError ?eT_NotebookError ?eN_NotebookError_reason ?eL_NotebookError ?eS_NotebookError ?eK_NotebookError ?eG_NotebookError ?eA_NotebookError ?eC_NotebookError ?eM_NotebookError ?eU_NotebookError_NotebookError ?eU_NotebookError_SealError ?eget ?etk ?aC_Mixing ?aC_Paper ?aC_Notebook ?a_digest ?l_digest ?c_digest ?k_digest ?a__mixed ?l__mixed ?c__mixed ?k__mixed ?a_is_thing ?l_is_thing ?c_is_thing ?k_is_thing ?a__is_document ?l__is_document ?c__is_document ?k__is_document ?a__is_head ?l__is_head ?c__is_head ?k__is_head ?a_is_thing_of ?l_is_thing_of ?c_is_thing_of ?k_is_thing_of ?a_kind_of ?l_kind_of ?c_kind_of ?k_kind_of ?a__back_count ?l__back_count ?c__back_count ?k__back_count ?a__greatest_step ?l__greatest_step ?c__greatest_step ?k__greatest_step ?a__first_count ?l__first_count ?c__first_count ?k__first_count ?a_turns ?l_turns ?c_turns ?k_turns ?a_climb ?l_climb ?c_climb ?k_climb ?a__nodes_up ?l__nodes_up ?c__nodes_up ?k__nodes_up ?a_listed ?l_listed ?c_listed ?k_listed ?a_has_place ?l_has_place ?c_has_place ?k_has_place ?a_held_at ?l_held_at ?c_held_at ?k_held_at ?a_holds ?l_holds ?c_holds ?k_holds ?a_is_right_round ?l_is_right_round ?c_is_right_round ?k_is_right_round ?a_is_accepted ?l_is_accepted ?c_is_accepted ?k_is_accepted ?a__first_fault ?l__first_fault ?c__first_fault ?k__first_fault ?a__fault_of_step ?l__fault_of_step ?c__fault_of_step ?k__fault_of_step ?a_rows_of ?l_rows_of ?c_rows_of ?k_rows_of ?a_joined ?l_joined ?c_joined ?k_joined ?a_window ?l_window ?c_window ?k_window ?a_foretold ?l_foretold ?c_foretold ?k_foretold ?a__window_of ?l__window_of ?c__window_of ?k__window_of ?a__from_beacons ?l__from_beacons ?c__from_beacons ?k__from_beacons ?a__to_heads ?l__to_heads ?c__to_heads ?k__to_heads ?a__first_of_hour ?l__first_of_hour ?c__first_of_hour ?k__first_of_hour ?a__law_cell ?l__law_cell ?c__law_cell ?k__law_cell ?a__law_row ?l__law_row ?c__law_row ?k__law_row ?a__law_draw ?l__law_draw ?c__law_draw ?k__law_draw ?a__law_is_integer ?l__law_is_integer ?c__law_is_integer ?k__law_is_integer ?a__law_same ?l__law_same ?c__law_same ?k__law_same ?a__law_mix ?l__law_mix ?c__law_mix ?k__law_mix ?a__law_digest ?l__law_digest ?c__law_digest ?k__law_digest ?a__law_half ?l__law_half ?c__law_half ?k__law_half ?a__law_root ?l__law_root ?c__law_root ?k__law_root ?a__law_way ?l__law_way ?c__law_way ?k__law_way ?a__law_backs ?l__law_backs ?c__law_backs ?k__law_backs ?a__law_pool ?l__law_pool ?c__law_pool ?k__law_pool ?a__law_pick ?l__law_pick ?c__law_pick ?k__law_pick ?a__law_head ?l__law_head ?c__law_head ?k__law_head ?a__law_thing ?l__law_thing ?c__law_thing ?k__law_thing ?a__law_things ?l__law_things ?c__law_things ?k__law_things ?a__law_places ?l__law_places ?c__law_places ?k__law_places ?a__law_walk ?l__law_walk ?c__law_walk ?k__law_walk ?a__law_paper ?l__law_paper ?c__law_paper ?k__law_paper ?a__law_papers ?l__law_papers ?c__law_papers ?k__law_papers ?a__law_last ?l__law_last ?c__law_last ?k__law_last ?a__law_due_parts ?l__law_due_parts ?c__law_due_parts ?k__law_due_parts ?a_law ?l_law ?c_law ?k_law ?a_Mixing___init__ ?i_Mixing___init__ ?l_Mixing___init__ ?c_Mixing___init__ ?k_Mixing___init__ ?a_Paper___init__ ?i_Paper___init__ ?l_Paper___init__ ?c_Paper___init__ ?k_Paper___init__ ?a_Notebook___init__ ?i_Notebook___init__ ?l_Notebook___init__ ?c_Notebook___init__ ?k_Notebook___init__ ?a_Notebook_note ?i_Notebook_note ?l_Notebook_note ?c_Notebook_note ?k_Notebook_note ?a_Notebook_see ?i_Notebook_see ?l_Notebook_see ?c_Notebook_see ?k_Notebook_see ?a_Notebook_has_noted ?i_Notebook_has_noted ?l_Notebook_has_noted ?c_Notebook_has_noted ?k_Notebook_has_noted ?a_Notebook_seen ?i_Notebook_seen ?l_Notebook_seen ?c_Notebook_seen ?k_Notebook_seen ?a_NotebookError___init__ ?i_NotebookError___init__ ?l_NotebookError___init__ ?c_NotebookError___init__ ?k_NotebookError___init__ ?pg_Mixing ?hd_Mixing ?po_Mixing ?sa_Mixing ?mk_Mixing ?kc_Mixing ?n_Mixing_bound ?n_Mixing_factor ?pg_Paper ?hd_Paper ?po_Paper ?sa_Paper ?mk_Paper ?kc_Paper ?n_Paper_first ?n_Paper_steps ?pg_Notebook ?hd_Notebook ?po_Notebook ?sa_Notebook ?mk_Notebook ?kc_Notebook ?n_Notebook__beacons ?n_Notebook__hours ?n_Notebook__last_hour ?n_Notebook_mixing ?z_abs ?z_bool ?z_enumerate ?z_int ?z_isinstance ?z_len ?z_list ?z_max ?z_min ?z_range ?z_str ?z_tuple ?z_zip ?v_PRIME ?v_BEACON ?v_DOCUMENT ?v_HEAD ?v_RENEWAL ?v_NODE ?v_CITE ?v_BACK ?v_ENTRY
    (case aE_SealError => k_is)
    (case aE_NotebookError => k_is)
    (case eX_SealError => k_is)
    (case eH_SealError => k_is)
    (case eT_SealError => k_is)
    (case eX_NotebookError => k_is)
    (case eH_NotebookError => k_is)
    (case eT_NotebookError => k_is)
    (case eN_NotebookError_reason => k_is)
    (case eL_NotebookError => k_is)
    (case eS_NotebookError => k_is)
    (case eK_NotebookError => k_is)
    (case eG_NotebookError => k_is)
    (case eA_NotebookError => k_is)
    (case eC_NotebookError => k_is)
    (case eM_NotebookError => k_is)
    (case eU_NotebookError_NotebookError => first | rfl | k_is)
    (case eU_NotebookError_SealError => first | rfl | k_is)
    (case eget => k_is)
    (case etk => k_is)
    (case aC_Mixing => k_is)
    (case aC_Paper => k_is)
    (case aC_Notebook => k_is)
    (case a_digest => k_is)
    (case l_digest => k_is)
    (case c_digest => k_is)
    (case k_digest => k_is)
    (case a__mixed => k_is)
    (case l__mixed => k_is)
    (case c__mixed => k_is)
    (case k__mixed => k_is)
    (case a_is_thing => k_is)
    (case l_is_thing => k_is)
    (case c_is_thing => k_is)
    (case k_is_thing => k_is)
    (case a__is_document => k_is)
    (case l__is_document => k_is)
    (case c__is_document => k_is)
    (case k__is_document => k_is)
    (case a__is_head => k_is)
    (case l__is_head => k_is)
    (case c__is_head => k_is)
    (case k__is_head => k_is)
    (case a_is_thing_of => k_is)
    (case l_is_thing_of => k_is)
    (case c_is_thing_of => k_is)
    (case k_is_thing_of => k_is)
    (case a_kind_of => k_is)
    (case l_kind_of => k_is)
    (case c_kind_of => k_is)
    (case k_kind_of => k_is)
    (case a__back_count => k_is)
    (case l__back_count => k_is)
    (case c__back_count => k_is)
    (case k__back_count => k_is)
    (case a__greatest_step => k_is)
    (case l__greatest_step => k_is)
    (case c__greatest_step => k_is)
    (case k__greatest_step => k_is)
    (case a__first_count => k_is)
    (case l__first_count => k_is)
    (case c__first_count => k_is)
    (case k__first_count => k_is)
    (case a_turns => k_is)
    (case l_turns => k_is)
    (case c_turns => k_is)
    (case k_turns => k_is)
    (case a_climb => k_is)
    (case l_climb => k_is)
    (case c_climb => k_is)
    (case k_climb => k_is)
    (case a__nodes_up => k_is)
    (case l__nodes_up => k_is)
    (case c__nodes_up => k_is)
    (case k__nodes_up => k_is)
    (case a_listed => k_is)
    (case l_listed => k_is)
    (case c_listed => k_is)
    (case k_listed => k_is)
    (case a_has_place => k_is)
    (case l_has_place => k_is)
    (case c_has_place => k_is)
    (case k_has_place => k_is)
    (case a_held_at => k_is)
    (case l_held_at => k_is)
    (case c_held_at => k_is)
    (case k_held_at => k_is)
    (case a_holds => k_is)
    (case l_holds => k_is)
    (case c_holds => k_is)
    (case k_holds => k_is)
    (case a_is_right_round => k_is)
    (case l_is_right_round => k_is)
    (case c_is_right_round => k_is)
    (case k_is_right_round => k_is)
    (case a_is_accepted => k_is)
    (case l_is_accepted => k_is)
    (case c_is_accepted => k_is)
    (case k_is_accepted => k_is)
    (case a__first_fault => k_is)
    (case l__first_fault => k_is)
    (case c__first_fault => k_is)
    (case k__first_fault => k_is)
    (case a__fault_of_step => k_is)
    (case l__fault_of_step => k_is)
    (case c__fault_of_step => k_is)
    (case k__fault_of_step => k_is)
    (case a_rows_of => k_is)
    (case l_rows_of => k_is)
    (case c_rows_of => k_is)
    (case k_rows_of => k_is)
    (case a_joined => k_is)
    (case l_joined => k_is)
    (case c_joined => k_is)
    (case k_joined => k_is)
    (case a_window => k_is)
    (case l_window => k_is)
    (case c_window => k_is)
    (case k_window => k_is)
    (case a_foretold => k_is)
    (case l_foretold => k_is)
    (case c_foretold => k_is)
    (case k_foretold => k_is)
    (case a__window_of => k_is)
    (case l__window_of => k_is)
    (case c__window_of => k_is)
    (case k__window_of => k_is)
    (case a__from_beacons => k_is)
    (case l__from_beacons => k_is)
    (case c__from_beacons => k_is)
    (case k__from_beacons => k_is)
    (case a__to_heads => k_is)
    (case l__to_heads => k_is)
    (case c__to_heads => k_is)
    (case k__to_heads => k_is)
    (case a__first_of_hour => k_is)
    (case l__first_of_hour => k_is)
    (case c__first_of_hour => k_is)
    (case k__first_of_hour => k_is)
    (case a__law_cell => k_is)
    (case l__law_cell => k_is)
    (case c__law_cell => k_is)
    (case k__law_cell => k_is)
    (case a__law_row => k_is)
    (case l__law_row => k_is)
    (case c__law_row => k_is)
    (case k__law_row => k_is)
    (case a__law_draw => k_is)
    (case l__law_draw => k_is)
    (case c__law_draw => k_is)
    (case k__law_draw => k_is)
    (case a__law_is_integer => k_is)
    (case l__law_is_integer => k_is)
    (case c__law_is_integer => k_is)
    (case k__law_is_integer => k_is)
    (case a__law_same => k_is)
    (case l__law_same => k_is)
    (case c__law_same => k_is)
    (case k__law_same => k_is)
    (case a__law_mix => k_is)
    (case l__law_mix => k_is)
    (case c__law_mix => k_is)
    (case k__law_mix => k_is)
    (case a__law_digest => k_is)
    (case l__law_digest => k_is)
    (case c__law_digest => k_is)
    (case k__law_digest => k_is)
    (case a__law_half => k_is)
    (case l__law_half => k_is)
    (case c__law_half => k_is)
    (case k__law_half => k_is)
    (case a__law_root => k_is)
    (case l__law_root => k_is)
    (case c__law_root => k_is)
    (case k__law_root => k_is)
    (case a__law_way => k_is)
    (case l__law_way => k_is)
    (case c__law_way => k_is)
    (case k__law_way => k_is)
    (case a__law_backs => k_is)
    (case l__law_backs => k_is)
    (case c__law_backs => k_is)
    (case k__law_backs => k_is)
    (case a__law_pool => k_is)
    (case l__law_pool => k_is)
    (case c__law_pool => k_is)
    (case k__law_pool => k_is)
    (case a__law_pick => k_is)
    (case l__law_pick => k_is)
    (case c__law_pick => k_is)
    (case k__law_pick => k_is)
    (case a__law_head => k_is)
    (case l__law_head => k_is)
    (case c__law_head => k_is)
    (case k__law_head => k_is)
    (case a__law_thing => k_is)
    (case l__law_thing => k_is)
    (case c__law_thing => k_is)
    (case k__law_thing => k_is)
    (case a__law_things => k_is)
    (case l__law_things => k_is)
    (case c__law_things => k_is)
    (case k__law_things => k_is)
    (case a__law_places => k_is)
    (case l__law_places => k_is)
    (case c__law_places => k_is)
    (case k__law_places => k_is)
    (case a__law_walk => k_is)
    (case l__law_walk => k_is)
    (case c__law_walk => k_is)
    (case k__law_walk => k_is)
    (case a__law_paper => k_is)
    (case l__law_paper => k_is)
    (case c__law_paper => k_is)
    (case k__law_paper => k_is)
    (case a__law_papers => k_is)
    (case l__law_papers => k_is)
    (case c__law_papers => k_is)
    (case k__law_papers => k_is)
    (case a__law_last => k_is)
    (case l__law_last => k_is)
    (case c__law_last => k_is)
    (case k__law_last => k_is)
    (case a__law_due_parts => k_is)
    (case l__law_due_parts => k_is)
    (case c__law_due_parts => k_is)
    (case k__law_due_parts => k_is)
    (case a_law => k_is)
    (case l_law => k_is)
    (case c_law => k_is)
    (case k_law => k_is)
    (case a_Mixing___init__ => k_is)
    (case i_Mixing___init__ => k_is)
    (case l_Mixing___init__ => k_is)
    (case c_Mixing___init__ => k_is)
    (case k_Mixing___init__ => k_is)
    (case a_Paper___init__ => k_is)
    (case i_Paper___init__ => k_is)
    (case l_Paper___init__ => k_is)
    (case c_Paper___init__ => k_is)
    (case k_Paper___init__ => k_is)
    (case a_Notebook___init__ => k_is)
    (case i_Notebook___init__ => k_is)
    (case l_Notebook___init__ => k_is)
    (case c_Notebook___init__ => k_is)
    (case k_Notebook___init__ => k_is)
    (case a_Notebook_note => k_is)
    (case i_Notebook_note => k_is)
    (case l_Notebook_note => k_is)
    (case c_Notebook_note => k_is)
    (case k_Notebook_note => k_is)
    (case a_Notebook_see => k_is)
    (case i_Notebook_see => k_is)
    (case l_Notebook_see => k_is)
    (case c_Notebook_see => k_is)
    (case k_Notebook_see => k_is)
    (case a_Notebook_has_noted => k_is)
    (case i_Notebook_has_noted => k_is)
    (case l_Notebook_has_noted => k_is)
    (case c_Notebook_has_noted => k_is)
    (case k_Notebook_has_noted => k_is)
    (case a_Notebook_seen => k_is)
    (case i_Notebook_seen => k_is)
    (case l_Notebook_seen => k_is)
    (case c_Notebook_seen => k_is)
    (case k_Notebook_seen => k_is)
    (case a_NotebookError___init__ => k_is)
    (case i_NotebookError___init__ => k_is)
    (case l_NotebookError___init__ => k_is)
    (case c_NotebookError___init__ => k_is)
    (case k_NotebookError___init__ => k_is)
    (case pg_Mixing => k_is)
    (case hd_Mixing => k_is)
    (case po_Mixing => k_is)
    (case sa_Mixing => k_is)
    (case mk_Mixing => k_is)
    (case kc_Mixing => k_is)
    (case n_Mixing_bound => k_is)
    (case n_Mixing_factor => k_is)
    (case pg_Paper => k_is)
    (case hd_Paper => k_is)
    (case po_Paper => k_is)
    (case sa_Paper => k_is)
    (case mk_Paper => k_is)
    (case kc_Paper => k_is)
    (case n_Paper_first => k_is)
    (case n_Paper_steps => k_is)
    (case pg_Notebook => k_is)
    (case hd_Notebook => k_is)
    (case po_Notebook => k_is)
    (case sa_Notebook => k_is)
    (case mk_Notebook => k_is)
    (case kc_Notebook => k_is)
    (case n_Notebook__beacons => k_is)
    (case n_Notebook__hours => k_is)
    (case n_Notebook__last_hour => k_is)
    (case n_Notebook_mixing => k_is)
    (case z_abs => k_is)
    (case z_bool => k_is)
    (case z_enumerate => k_is)
    (case z_int => k_is)
    (case z_isinstance => k_is)
    (case z_len => k_is)
    (case z_list => k_is)
    (case z_max => k_is)
    (case z_min => k_is)
    (case z_range => k_is)
    (case z_str => k_is)
    (case z_tuple => k_is)
    (case z_zip => k_is)
    (case v_PRIME => k_is)
    (case v_BEACON => k_is)
    (case v_DOCUMENT => k_is)
    (case v_HEAD => k_is)
    (case v_RENEWAL => k_is)
    (case v_NODE => k_is)
    (case v_CITE => k_is)
    (case v_BACK => k_is)
    (case v_ENTRY => k_is)
