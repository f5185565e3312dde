import PyProof.Rows.All
import Wide.All
import OpenK.AllK
import Wide.FinOn
import HandS.ForMost
import HandS.IsInst
import HandS.Star
import HandS.WideBits
import HandS.Style
import HandS.Wide
import HandS.Flow
import HandS.TupAny
import HandS.Zip
import KE.GoesNew
import KE.GoesMore
import KE.KDictCopyH
import KE.GoesEnumKw
import HandS.Conv
import HandS.ForExc
import HandS.ExcInit
import HandS.ExcField
import KE.KExcIs
import HandS.ExcIs
import HandS.Codes
import HandS.Deep
import PySem.Challenge.RW_sealround_k81_whole_later_things
set_option Elab.async false
set_option linter.all false
set_option maxRecDepth 100000
set_option maxHeartbeats 4000000
namespace Z
open PySem L2

/-! ## one heap and the next: all but what stands in A is kept, tuples and what is locked always, nothing goes -/
structure Kp (A : List Addr) (H H' : Hp) : Prop where
  k : ∀ q o, q ∉ A → H q = some o → H' q = some o
  t : ∀ q xs, H q = some (.tup xs) → H' q = some (.tup xs)
  z : ∀ q o u, H q = some (.frz o u) → H' q = some (.frz o u)
  n : ∀ q, H' q = none → H q = none
theorem Kp.refl (A : List Addr) (H : Hp) : Kp A H H := ⟨fun _ _ _ h => h, fun _ _ h => h, fun _ _ _ h => h, fun _ h => h⟩
theorem Kp.tr {A B : List Addr} {H H1 H2 : Hp} (a : Kp A H H1) (b : Kp B H1 H2) (h : ∀ l ∈ B, l ∈ A ∨ H l = none) : Kp A H H2 :=
  ⟨fun q o hq e => b.k q o (fun m => (h q m).elim hq fun z => by rw [z] at e; cases e) (a.k q o hq e), fun q xs e => b.t q xs (a.t q xs e), fun q o u e => b.z q o u (a.z q o u e), fun q e => a.n q (b.n q e)⟩
theorem Kp.tr0 {A : List Addr} {H H1 H2 : Hp} (a : Kp A H H1) (b : Kp [] H1 H2) : Kp A H H2 := a.tr b fun _ m => nomatch m
theorem Kp.tr1 {A : List Addr} {l : Addr} {H H1 H2 : Hp} (a : Kp A H H1) (b : Kp [l] H1 H2) (h : l ∈ A ∨ H l = none) : Kp A H H2 := a.tr b fun q m => by
  have e : q = l := by simpa using m
  rw [e]; exact h
theorem Kp.there {A : List Addr} {H H' : Hp} {q : Addr} {o : HO} (a : Kp A H H') (h : H q = some o) : H' q ≠ none := fun e => by
  rw [a.n q e] at h; cases h
theorem Kp.wk {A B : List Addr} {H H' : Hp} (a : Kp A H H') (h : ∀ l ∈ A, l ∈ B) : Kp B H H' := ⟨fun q o hq e => a.k q o (fun m => hq (h q m)) e, a.t, a.z, a.n⟩
theorem Kp.new {H : Hp} {p : Addr} {o : HO} (h : H p = none) : Kp [] H (upd H p o) := by
  have k : ∀ q u, H q = some u → upd H p o q = some u := fun q u e => by rw [upd_ne (ne_of_none e h)]; exact e
  refine ⟨fun q u _ e => k q u e, fun q xs e => k q _ e, fun q _ _ e => k q _ e, fun q e => ?_⟩
  cases hq : H q with
  | none => rfl
  | some u => rw [k q u hq] at e; cases e
/-- what may be changed -/
def Mu : HO → Bool
  | .tup _ => false
  | .frz _ _ => false
  | _ => true
theorem Kp.set {H : Hp} {l : Addr} {o u : HO} (h : H l = some u) (m : Mu u = true) : Kp [l] H (upd H l o) := by
  refine ⟨fun q u' hq e => ?_, fun q xs e => ?_, fun q o' u' e => ?_, fun q e => ?_⟩
  · rw [upd_ne (by simpa using hq)]; exact e
  · have ne : q ≠ l := fun z => by
      rw [z, h] at e; cases e; cases m
    rw [upd_ne ne]; exact e
  · have ne : q ≠ l := fun z => by
      rw [z, h] at e; cases e; cases m
    rw [upd_ne ne]; exact e
  · by_cases z : q = l
    · rw [z, upd_same] at e; cases e
    · rw [upd_ne z] at e; exact e
theorem Kp.tup {K : PySem.W.Frag} {A : List Addr} {H H' : Hp} {p : Addr} {xs : List V} (a : Kp A H H') (h : SqT K H p xs) : SqT K H' p xs := by
  rcases h with (h | ⟨o, h⟩) | h
  · exact .inl (.inl (a.t _ _ h))
  · exact .inl (.inr ⟨o, a.z _ _ _ h⟩)
  · exact .inr h
theorem Kp.lst {K : PySem.W.Frag} {A : List Addr} {H H' : Hp} {p : Addr} {xs : List V} (a : Kp A H H') (np : p ∉ A) (h : SqL K H p xs) : SqL K H' p xs := by
  rcases h with (h | ⟨o, h⟩) | h
  · exact .inl (.inl (a.k _ _ np h))
  · exact .inl (.inr ⟨o, a.z _ _ _ h⟩)
  · exact .inr h
theorem Kp.lst0 {K : PySem.W.Frag} {H H' : Hp} {p : Addr} {xs : List V} (a : Kp [] H H') (h : SqL K H p xs) : SqL K H' p xs := a.lst (by simp) h
theorem Kp.at {A : List Addr} {H H' : Hp} {p : Addr} {o : HO} (a : Kp A H H') (np : p ∉ A) (h : H p = .some o) : H' p = .some o := a.k _ _ np h
theorem Kp.at0 {H H' : Hp} {p : Addr} {o : HO} (a : Kp [] H H') (h : H p = .some o) : H' p = .some o := a.k _ _ (by simp) h
theorem Kp.at1 {H H' : Hp} {b p : Addr} {o : HO} (k : Kp [b] H H') (n : p ≠ b) (h : H p = .some o) : H' p = .some o := k.at (by simpa using n) h
theorem Kp.lst1 {K : PySem.W.Frag} {H H' : Hp} {b p : Addr} {xs : List V} (k : Kp [b] H H') (n : p ≠ b) (h : SqL K H p xs) : SqL K H' p xs := k.lst (by simpa using n) h
theorem Kp.same {H H' : Hp} (a : Kp [] H H') : Same H H' := fun q o e => a.at0 e
theorem SqT.of' {K : PySem.W.Frag} {H : Hp} {p : Addr} {xs : List V} (h : H p = .some (.tup xs)) : SqT K H p xs := .inl (.inl h)
theorem SqL.of' {K : PySem.W.Frag} {H : Hp} {p : Addr} {xs : List V} (h : H p = .some (.lst xs)) : SqL K H p xs := .inl (.inl h)
/-- a list that nothing changes (the script) -/
theorem ne_lst {K : PySem.W.Frag} {H : Hp} {p l : Addr} {o u : HO} (h : H p = .some o) (h' : H l = .some u) (d : o ≠ u) : p ≠ l := ne_of h h' d

/-! ## names and slots, by syntax alone -/
inductive At : List Str → St → Str → V → Prop
  | z {x : Str} {N : List Str} {v : V} {σ : St} : At (x :: N) (some v :: σ) x v
  | s {x y : Str} {N : List Str} {o : Option V} {v : V} {σ : St} : At N σ x v → At (y :: N) (o :: σ) x v
inductive Put : List Str → St → Str → V → St → Prop
  | z {x : Str} {N : List Str} {o : Option V} {v : V} {σ : St} : Put (x :: N) (o :: σ) x v (some v :: σ)
  | s {x y : Str} {N : List Str} {o : Option V} {v : V} {σ σ' : St} : Put N σ x v σ' → Put (y :: N) (o :: σ) x v (o :: σ')
inductive Mem : List Str → Str → Prop
  | z {x : Str} {N : List Str} : Mem (x :: N) x
  | s {x y : Str} {N : List Str} : Mem N x → Mem (y :: N) x
theorem At.ix {N : List Str} {σ : St} {x : Str} {v : V} (h : At N σ x v) : ∃ i : Nat, N[i]? = some x ∧ σ[i]? = some (some v) := by
  induction h with
  | z => exact ⟨0, rfl, rfl⟩
  | s _ ih => obtain ⟨i, a, b⟩ := ih; exact ⟨i + 1, by simpa using a, by simpa using b⟩
theorem Put.ix {N : List Str} {σ σ' : St} {x : Str} {v : V} (h : Put N σ x v σ') : ∃ i : Nat, N[i]? = some x ∧ σ.set i (some v) = σ' := by
  induction h with
  | z => exact ⟨0, rfl, rfl⟩
  | s _ ih => obtain ⟨i, a, b⟩ := ih; exact ⟨i + 1, by simpa using a, by simp [b]⟩
theorem Mem.mem {N : List Str} {x : Str} (h : Mem N x) : x ∈ N := by
  induction h with
  | z => simp
  | s _ ih => simp [ih]

/-! ## a block's scope: the names that it may read, may store; what it reads of the module -/
def okC (sc : Scope) (Vs Ls G : List Str) : Bool := Vs.all (fun x => sc.names.lookup x == some .local || sc.names.lookup x == some .cell || sc.names.lookup x == some .free) && Ls.all (fun x => sc.names.lookup x == some .local || sc.names.lookup x == some .cell) && G.all (fun x => sc.names.lookup x == some .globalImplicit)
theorem kind_of_beq : ∀ (a b : Option NameKind), (a == b) = true → a = b := fun a b h => by
  cases a <;> cases b <;> first | rfl | cases h | skip
  rename_i a b; cases a <;> cases b <;> first | rfl | cases h
theorem okC.vis {sc : Scope} {Vs Ls G : List Str} (h : okC sc Vs Ls G = true) {x : Str} (hx : x ∈ Vs) : Vis sc x := by
  unfold okC at h
  simp only [Bool.and_eq_true, List.all_eq_true, Bool.or_eq_true] at h
  rcases h.1.1 x hx with (q | q) | q
  · exact .inl (kind_of_beq _ _ q)
  · exact .inr (.inl (kind_of_beq _ _ q))
  · exact .inr (.inr (kind_of_beq _ _ q))
theorem okC.loc {sc : Scope} {Vs Ls G : List Str} (h : okC sc Vs Ls G = true) {x : Str} (hx : x ∈ Ls) : Loc sc x := by
  unfold okC at h
  simp only [Bool.and_eq_true, List.all_eq_true, Bool.or_eq_true] at h
  exact (h.1.2 x hx).imp (kind_of_beq _ _) (kind_of_beq _ _)
theorem okC.gl {sc : Scope} {Vs Ls G : List Str} (h : okC sc Vs Ls G = true) {x : Str} (hx : x ∈ G) : sc.names.lookup x = some .globalImplicit := by
  unfold okC at h
  simp only [Bool.and_eq_true, List.all_eq_true, Bool.or_eq_true] at h
  exact kind_of_beq _ _ (h.2 x hx)

/-! ## the judgements: a piece of syntax from a state -/
section
inductive XE (X : Cx) (e : Expr) (σ : St) (H : Hp) (Q : VK) : Prop
  | mk (t : TE) (h : PE X e t) (q : t σ H Q)
inductive XT (X : Cx) (e : Expr) (σ : St) (H : Hp) (Q : Bool → Hp → Prop) : Prop
  | mk (t : TT) (h : PT X e t) (q : t σ H Q)
inductive XW (X : Cx) (e : Expr) (σ : St) (H : Hp) (Q : Bool → Hp → Prop) : Prop
  | mk (t : TT) (h : PW X e t) (q : t σ H Q)
inductive XA (X : Cx) (es : List Expr) (σ : St) (H : Hp) (Q : List V → Hp → Prop) : Prop
  | mk (t : TA) (h : PA X es t) (q : t σ H Q)
inductive XO (X : Cx) (e : Option Expr) (σ : St) (H : Hp) (Q : Option Int → Hp → Prop) : Prop
  | mk (t : TO) (h : PO X e t) (q : t σ H Q)
inductive XG (X : Cx) (e : Expr) (v : V) (σ : St) (H : Hp) (Q : St → Hp → Prop) : Prop
  | mk (t : TG) (h : PG X e t) (q : t v σ H Q)
inductive XGs (X : Cx) (es : List Expr) (v : List V) (σ : St) (H : Hp) (Q : St → Hp → Prop) : Prop
  | mk (t : TGs) (h : PGs X es t) (q : t v σ H Q)
inductive XI (X : Cx) (tg e : Expr) (σ : St) (H : Hp) (R : It → Hp → Prop) : Prop
  | mk (t : TI) (h : PI X tg e t) (q : t σ H R)
/-- what is wanted behind a return, a break, a continue -/
structure B3 where
  rt : VK
  bk : St → Hp → Prop
  ct : St → Hp → Prop
inductive XS (X : Cx) (s : Stmt) (nx : St → Hp → Prop) (D : B3) (σ : St) (H : Hp) : Prop
  | mk (t : TS) (h : PS X s t) (q : t ⟨nx, D.rt, D.bk, D.ct⟩ σ H)
inductive XB (X : Cx) (s : List Stmt) (nx : St → Hp → Prop) (D : B3) (σ : St) (H : Hp) : Prop
  | mk (t : TS) (h : PSs X s t) (q : t ⟨nx, D.rt, D.bk, D.ct⟩ σ H)
/-! by values -/
inductive VO (X : Cx) (f : Value → Value → Sem Value) (x y : V) (H : Hp) (Q : VK) : Prop
  | mk (r : R2) (h : OpR X f r) (q : r x y H Q)
inductive VU (X : Cx) (f : Value → Sem Value) (x : V) (H : Hp) (Q : VK) : Prop
  | mk (r : V → Hp → VK → Prop) (h : UnR X f r) (q : r x H Q)
inductive VC (X : Cx) (f : Value) (xs : List V) (H : Hp) (Q : VK) : Prop
  | mk (r : List V → Hp → VK → Prop) (h : CallR X f r) (q : r xs H Q)
inductive VX (X : Cx) (x y : V) (H : Hp) (Q : VK) : Prop
  | mk (r : R2) (h : IxR X r) (q : r x y H Q)
inductive VSl (X : Cx) (x : V) (a b : Option Int) (H : Hp) (Q : VK) : Prop
  | mk (r : V → Option Int → Option Int → Hp → VK → Prop) (h : SlR X r) (q : r x a b H Q)
inductive VM (X : Cx) (id : String) (x : V) (xs : List V) (H : Hp) (Q : VK) : Prop
  | mk (r : V → List V → Hp → VK → Prop) (h : MtR X id r) (q : r x xs H Q)
inductive VT (X : Cx) (x : V) (H : Hp) (Q : Bool → Hp → Prop) : Prop
  | mk (k : Bool) (h : TruV X.K x H k) (q : Q k H)
inductive VSt (X : Cx) (o i v : V) (H : Hp) (Q : Hp → Prop) : Prop
  | mk (r : TSet) (h : PSet X r) (q : r o i v H Q)
inductive VIp (X : Cx) (op : Operator) (x y : V) (H : Hp) (Q : VK) : Prop
  | mk (r : TIp) (h : PIp X op r) (q : r x y H Q)
theorem VT.ex {X : Cx} {x : V} {H : Hp} {Q : Bool → Hp → Prop} (h : VT X x H Q) : ∃ k, TruV X.K x H k ∧ Q k H := by
  obtain ⟨k, a, b⟩ := h
  exact ⟨k, a, b⟩
end
section
variable {X : Cx} {σ σ' : St} {H : Hp} {Q : VK} {e a b : Expr} {es : List Expr} {pos p1 p2 p3 : Pos}
theorem XE.pe : PE X e (XE X e) := ⟨fun pins s σ H Q I ⟨_, ht, q⟩ => ht.run pins s σ H Q I q⟩
theorem XT.pt : PT X e (XT X e) := ⟨fun pins s σ H Q I ⟨_, ht, q⟩ => ht.run pins s σ H Q I q⟩
theorem XW.pw : PW X e (XW X e) := ⟨fun wh pins s σ H Q I ⟨_, ht, q⟩ => ht.run wh pins s σ H Q I q⟩
theorem XA.pa : PA X es (XA X es) := ⟨fun pos pins s σ H Q I ⟨_, ht, q⟩ => ht.run pos pins s σ H Q I q⟩
theorem XO.po {e : Option Expr} : PO X e (XO X e) := ⟨fun pins s σ H Q I ⟨_, ht, q⟩ => ht.run pins s σ H Q I q⟩
theorem XG.pg : PG X e (XG X e) := ⟨fun pins s σ H v u Q I r ⟨_, ht, q⟩ => ht.run pins s σ H v u Q I r q⟩
theorem XGs.pgs : PGs X es (XGs X es) := ⟨fun pins s σ H v u Q I r ⟨_, ht, q⟩ => ht.run pins s σ H v u Q I r q⟩
theorem XI.pi {tg : Expr} : PI X tg e (XI X tg e) := ⟨fun pins s σ H R I ⟨_, ht, q⟩ => ht.run pins s σ H R I q⟩
/-- a statement's reading with the wish behind it fixed apart -/
theorem XS.ps {s : Stmt} : PS X s (fun D σ H => XS X s D.nx ⟨D.rt, D.bk, D.ct⟩ σ H) := ⟨fun pins s σ H D I ⟨_, ht, q⟩ => ht.run pins s σ H D I q⟩
theorem XB.ps {s : List Stmt} : PSs X s (fun D σ H => XB X s D.nx ⟨D.rt, D.bk, D.ct⟩ σ H) := ⟨fun pins s σ H D I ⟨_, ht, q⟩ => ht.run pins s σ H D I q⟩
theorem VO.ok {f : Value → Value → Sem Value} : OpR X f (VO X f) := fun pins s σ H x y v u Q I r1 r2 ⟨_, hr, q⟩ => hr pins s σ H x y v u Q I r1 r2 q
theorem VU.ok {f : Value → Sem Value} : UnR X f (VU X f) := fun pins s σ H x v Q I r1 ⟨_, hr, q⟩ => hr pins s σ H x v Q I r1 q
theorem VC.ok {f : Value} : CallR X f (VC X f) := fun pins s σ H x v Q I r1 ⟨_, hr, q⟩ => hr pins s σ H x v Q I r1 q
theorem VX.ok : IxR X (VX X) := fun v1 v2 pins s σ H x y v u Q I r1 r2 ⟨_, hr, q⟩ hs => hr v1 v2 pins s σ H x y v u Q I r1 r2 q hs
theorem VM.ok {id : String} : MtR X id (VM X id) := fun pins s σ H x xs v us Q I r1 r2 ⟨_, hr, q⟩ => hr pins s σ H x xs v us Q I r1 r2 q
theorem VSl.ok : SlR X (VSl X) := by
  intro pins s σ H x v vl vu lo hi sl Q I rx hs pl pu ⟨_, hr, q⟩
  exact hr pins s σ H x v vl vu lo hi sl Q I rx hs pl pu q
theorem VSt.ok : PSet X (VSt X) := fun pins s σ H o i v ov iv u Q I r1 r2 r3 ⟨_, hr, q⟩ => hr pins s σ H o i v ov iv u Q I r1 r2 r3 q
theorem VIp.ok {op : Operator} : PIp X op (VIp X op) := fun pins s σ H x y v u Q I r1 r2 ⟨_, hr, q⟩ => hr pins s σ H x y v u Q I r1 r2 q


/-! ## more is wanted than asked -/
theorem XE.mono {Q' : VK} (h : XE X e σ H Q) (m : ∀ v H', Q v H' → Q' v H') : XE X e σ H Q' := by
  obtain ⟨t, ht, q⟩ := h
  exact ⟨fun σ H R => ∃ R', t σ H R' ∧ ∀ v H', R' v H' → R v H', ⟨fun pins s σ H R I ⟨R', q, m⟩ => thn (ht.run pins s σ H R' I q) fun v s ⟨x, H', I', r, z⟩ => ⟨x, H', I', r, m _ _ z⟩⟩, Q, q, m⟩
theorem XT.mono {Q Q' : Bool → Hp → Prop} (h : XT X e σ H Q) (m : ∀ v H', Q v H' → Q' v H') : XT X e σ H Q' := by
  obtain ⟨t, ht, q⟩ := h
  exact ⟨fun σ H R => ∃ R', t σ H R' ∧ ∀ v H', R' v H' → R v H', ⟨fun pins s σ H R I ⟨R', q, m⟩ => thn (ht.run pins s σ H R' I q) fun v s ⟨H', I', z⟩ => ⟨H', I', m _ _ z⟩⟩, Q, q, m⟩
theorem XW.mono {Q Q' : Bool → Hp → Prop} (h : XW X e σ H Q) (m : ∀ v H', Q v H' → Q' v H') : XW X e σ H Q' := by
  obtain ⟨t, ht, q⟩ := h
  exact ⟨fun σ H R => ∃ R', t σ H R' ∧ ∀ v H', R' v H' → R v H', ⟨fun wh pins s σ H R I ⟨R', q, m⟩ => thn (ht.run wh pins s σ H R' I q) fun v s ⟨H', I', z⟩ => ⟨H', I', m _ _ z⟩⟩, Q, q, m⟩
theorem XA.mono {Q Q' : List V → Hp → Prop} (h : XA X es σ H Q) (m : ∀ v H', Q v H' → Q' v H') : XA X es σ H Q' := by
  obtain ⟨t, ht, q⟩ := h
  exact ⟨fun σ H R => ∃ R', t σ H R' ∧ ∀ v H', R' v H' → R v H', ⟨fun pos pins s σ H R I ⟨R', q, m⟩ => thn (ht.run pos pins s σ H R' I q) fun v s ⟨x, H', I', r, z⟩ => ⟨x, H', I', r, m _ _ z⟩⟩, Q, q, m⟩
theorem VO.mono {f : Value → Value → Sem Value} {x y : V} {Q' : VK} (h : VO X f x y H Q) (m : ∀ v H', Q v H' → Q' v H') : VO X f x y H Q' := by
  obtain ⟨t, ht, q⟩ := h
  exact ⟨fun x y H R => ∃ R', t x y H R' ∧ ∀ v H', R' v H' → R v H', fun pins s σ H x y v u R I rx ry ⟨R', q, m⟩ => thn (ht pins s σ H x y v u R' I rx ry q) fun v s ⟨x, H', I', r, z⟩ => ⟨x, H', I', r, m _ _ z⟩, Q, q, m⟩
theorem VC.mono {f : Value} {xs : List V} {Q' : VK} (h : VC X f xs H Q) (m : ∀ v H', Q v H' → Q' v H') : VC X f xs H Q' := by
  obtain ⟨t, ht, q⟩ := h
  exact ⟨fun xs H R => ∃ R', t xs H R' ∧ ∀ v H', R' v H' → R v H', fun pins s σ H x v R I rx ⟨R', q, m⟩ => thn (ht pins s σ H x v R' I rx q) fun v s ⟨x, H', I', r, z⟩ => ⟨x, H', I', r, m _ _ z⟩, Q, q, m⟩

/-! ## the context of a body -/
structure Ctx (X : Cx) (sc : Scope) (N Vs Ls G : List Str) (k : Nat) : Prop where
  hN : X.N = N
  nd : N.Nodup
  esc : X.env.scope = sc
  ok : okC sc Vs Ls G = true
  calm : X.calm = true
  fn : ∀ x ∈ Ls, X.fn x = true
  po : PassesOwn (model X.prog X.w) X.A X.env X.xe
  knd : sc.kind = .function
  room : Room k X.A
variable {N Vs Ls G : List Str} {k : Nat} {D : B3} {nx : St → Hp → Prop} {K : PySem.W.Frag} {sc : Scope}
theorem Ctx.vis (C : Ctx X sc N Vs Ls G k) {x : Str} (h : Mem Vs x) : Vis X.env.scope x := by rw [C.esc]; exact okC.vis C.ok h.mem
theorem Ctx.loc (C : Ctx X sc N Vs Ls G k) {x : Str} (h : Mem Ls x) : Loc X.env.scope x := by rw [C.esc]; exact okC.loc C.ok h.mem
theorem Ctx.gl (C : Ctx X sc N Vs Ls G k) {x : Str} (h : Mem G x) : Gl X x := by
  show X.env.scope.names.lookup x = _
  rw [C.esc]; exact okC.gl C.ok h.mem
theorem Ctx.hu (C : Ctx X sc N Vs Ls G k) : X.A.units + 1 < cLine := hu_of C.room

/-! ## expressions -/
/-- a name: hd, hcd by decide -/
theorem xe_var {x : Str} {v : V} (C : Ctx X sc N Vs Ls G k) (hv : Mem Vs x) (h : At N σ x v) (q : Q v H)
    (hd : (x == ("__debug__" : Str)) = false := by decide) (hcd : (x == ("__classdict__" : Str)) = false := by decide) : XE X (.Name x pos) σ H Q := by
  obtain ⟨i, h1, h2⟩ := h.ix
  exact ⟨_, pe_var (i := i) (by rw [C.hN]; exact h1) (C.vis hv) hd hcd, v, h2, q⟩
theorem xe_int {i : Int} {j : Nat} (q : Q (.int i) H) : XE X (.Constant (.int i) j pos) σ H Q := ⟨_, pe_int, q⟩
theorem xe_bl {i : Bool} {j : Nat} (q : Q (.bl i) H) : XE X (.Constant (.bool i) j pos) σ H Q := ⟨_, pe_bl, q⟩
theorem xe_non {j : Nat} (q : Q .non H) : XE X (.Constant .none j pos) σ H Q := ⟨_, pe_non, q⟩
theorem xe_str {i : Str} {j : Nat} (q : Q (.str i) H) : XE X (.Constant (.str i) j pos) σ H Q := ⟨_, pe_str, q⟩
theorem xe_glob {x : Str} {v : V} {u : Value} (C : Ctx X sc N Vs Ls G k) (hg : Mem G x) (hm : X.mg x = some u) (r : RelV v u) (q : Q v H) (hd : (x == ("__debug__" : Str)) = false := by decide) : XE X (.Name x pos) σ H Q := ⟨_, pe_glob (C.gl hg) hm r hd, q⟩
theorem xe_bin {op : Operator} (h : XE X a σ H fun x H1 => XE X b σ H1 fun y H2 => VO X (binaryOp op) x y H2 Q) : XE X (.BinOp a op b pos) σ H Q := ⟨_, pe_op VO.ok XE.pe XE.pe, h⟩
theorem xe_un {op : UnaryOp} (h : XE X a σ H fun x H1 => VU X (unaryOp op) x H1 Q) : XE X (.UnaryOp op a pos) σ H Q := ⟨_, pe_un VU.ok XE.pe, h⟩
theorem xe_not (h : XE X a σ H fun v H1 => VT X v H1 fun c H2 => Q (.bl (!c)) H2) : XE X (.UnaryOp .Not a pos) σ H Q := ⟨_, pe_notT XE.pe, h.mono fun _ _ z => z.ex⟩
theorem xe_and {rest : List Expr} (h : XE X a σ H fun v H1 => VT X v H1 fun k H1 => if k = true then XE X (.BoolOp .And (b :: rest) pos) σ H1 Q else Q v H1) : XE X (.BoolOp .And (a :: b :: rest) pos) σ H Q := ⟨_, pe_andT XE.pe XE.pe, h.mono fun _ _ z => z.ex⟩
theorem xe_or {rest : List Expr} (h : XE X a σ H fun v H1 => VT X v H1 fun k H1 => if k = true then Q v H1 else XE X (.BoolOp .Or (b :: rest) pos) σ H1 Q) : XE X (.BoolOp .Or (a :: b :: rest) pos) σ H Q := ⟨_, pe_orT XE.pe XE.pe, h.mono fun _ _ z => z.ex⟩
theorem xe_one {op : BoolOp} (h : XE X a σ H Q) : XE X (.BoolOp op [a] pos) σ H Q := ⟨_, pe_one XE.pe, h⟩
theorem xe_cmp {op : CmpOp} (h : XE X a σ H fun x H1 => XE X b σ H1 fun y H2 => VO X (compareOp op) x y H2 Q) (hm : behindInMarks op b = false := by rfl) : XE X (.Compare a [op] [b] pos) σ H Q := ⟨_, pe_cmpR VO.ok XE.pe XE.pe hm, h⟩
theorem xe_chain {op op' : CmpOp} {c : Expr} (h : XE X a σ H fun x H1 => XE X b σ H1 fun y H2 => VO X (compareOp op) x y H2 fun z H3 => ∃ k, z = .bl k ∧
    if k = true then XE X c σ H3 (fun y' H4 => VO X (compareOp op') y y' H4 Q) else Q (.bl false) H3) (hm : lastMarks [op, op'] [b, c] = false := by with_unfolding_all rfl) : XE X (.Compare a [op, op'] [b, c] pos) σ H Q := ⟨_, pe_chain VO.ok VO.ok XE.pe XE.pe XE.pe hm, h⟩
theorem xe_ifExp {c : Expr} (h : XT X c σ H fun k H1 => if k = true then XE X a σ H1 Q else XE X b σ H1 Q) : XE X (.IfExp c a b pos) σ H Q := ⟨_, pe_ifExp XT.pt XE.pe XE.pe, h⟩
theorem xe_ix (h : XE X a σ H fun x H1 => XE X b σ H1 fun y H2 => VX X x y H2 Q) (hs : PlainIx b := by exact fun _ _ => rfl) : XE X (.Subscript a b pos) σ H Q := ⟨_, pe_ix VX.ok XE.pe XE.pe hs, h⟩
theorem xe_sl {lo hi : Option Expr} (h : XE X a σ H fun x H1 => XO X lo σ H1 fun l H2 => XO X hi σ H2 fun u H3 => VSl X x l u H3 Q) : XE X (.Subscript a (.Slice lo hi none p2) pos) σ H Q := ⟨_, pe_slice VSl.ok XE.pe XO.po XO.po, h⟩
theorem xo_none {R : Option Int → Hp → Prop} (h : R none H) : XO X none σ H R := ⟨_, po_none, h⟩
theorem xo_some {R : Option Int → Hp → Prop} (h : XE X a σ H fun x H1 => ∃ i, x = .int i ∧ R (some i) H1) : XO X (some a) σ H R := ⟨_, po_some XE.pe, h⟩
theorem xa_nil {R : List V → Hp → Prop} (h : R [] H) : XA X [] σ H R := ⟨_, pa_nil, h⟩
theorem xa_cons {R : List V → Hp → Prop} (h : XE X a σ H fun x H1 => XA X es σ H1 fun xs H2 => R (x :: xs) H2) (hs : starEach (a :: es) X.env = (false, eval a X.env) :: starEach es X.env := by rfl) : XA X (a :: es) σ H R := ⟨_, pa_cons XE.pe XA.pa hs, h⟩
theorem xa_star {R : List V → Hp → Prop} (h : XE X a σ H fun x H1 => ∃ p xs, x = .ref p ∧ (SqT X.K H1 p xs ∨ SqL X.K H1 p xs) ∧ XA X es σ H1 fun ys H2 => R (xs ++ ys) H2) (hs : starEach (.Starred a p2 :: es) X.env = (true, eval a X.env) :: starEach es X.env := by rfl) : XA X (.Starred a p2 :: es) σ H R := ⟨_, StX.pa_star XE.pe XA.pa hs, h⟩

/-- a new object -/
theorem new_ {H : Hp} {o : HO} {R : Addr → Hp → Prop} (h : ∀ p H', Kp [] H H' → H p = none → H' p = some o → R p H') (p : Addr) (hp : H p = none) : R p (upd H p o) := h p _ (Kp.new hp) hp upd_same
/-- a new tuple, wanted by what it holds alone -/
theorem newT {K : PySem.W.Frag} {H : Hp} {xs : List V} {R : V → Hp → Prop} (h : ∀ p H', Kp [] H H' → SqT K H' p xs → R (.ref p) H') (p : Addr) (hp : H p = none) : R (.ref p) (upd H p (.tup xs)) := h p _ (Kp.new hp) (.inl (.inl upd_same))
theorem xe_tup {j : Nat} (h : XA X es σ H fun vs H1 => vs.length ≤ sizeLine ∧ ∀ p H', Kp [] H1 H' → SqT X.K H' p vs → H' p = some (.tup vs) → Q (.ref p) H') : XE X (.Tuple es j pos) σ H Q :=
  ⟨_, pe_tup XA.pa, h.mono fun _ _ ⟨a, b⟩ => ⟨a, fun p hp => b p _ (Kp.new hp) (.inl (.inl upd_same)) upd_same⟩⟩
theorem xe_lst (h : XA X es σ H fun vs H1 => vs.length ≤ sizeLine ∧ ∀ p H', Kp [] H1 H' → H1 p = none → H' p = some (.lst vs) → Q (.ref p) H') : XE X (.List es pos) σ H Q :=
  ⟨_, pe_lst XA.pa, h.mono fun _ _ ⟨a, b⟩ => ⟨a, new_ b⟩⟩

/-! ## tests -/
variable {R : Bool → Hp → Prop}
theorem xt_val (h : XE X e σ H fun v H1 => VT X v H1 R) (he : ∀ whole, isTrue e X.env whole = (do let v ← whole; standAt e.pos; holding [v] (truthy v)) := by intro _; rfl) : XT X e σ H R := ⟨_, pt_truth XE.pe he, h.mono fun _ _ z => z.ex⟩
theorem xt_cmp {op : CmpOp} (h : XE X a σ H fun x H1 => XE X b σ H1 fun y H2 => VO X (compareOp op) x y H2 fun z H3 => ∃ k, z = .bl k ∧ R k H3) (hm : behindInMarks op b = false := by rfl) : XT X (.Compare a [op] [b] pos) σ H R := ⟨_, pt_cmpR VO.ok XE.pe XE.pe hm, h⟩
theorem xt_chain {op op' : CmpOp} {c : Expr} (h : XE X a σ H fun x H1 => XE X b σ H1 fun y H2 => VO X (compareOp op) x y H2 fun z H3 => ∃ k, z = .bl k ∧
    if k = true then XE X c σ H3 (fun y' H4 => VO X (compareOp op') y y' H4 fun z' H5 => ∃ k', z' = .bl k' ∧ R k' H5) else R false H3) (hm : lastMarks [op, op'] [b, c] = false := by with_unfolding_all rfl) : XT X (.Compare a [op, op'] [b, c] pos) σ H R := by
  refine ⟨_, pt_chain VO.ok VO.ok XE.pe XE.pe XE.pe hm, XE.mono h fun x H1 h => XE.mono h fun y H2 h => VO.mono h fun z H3 ⟨k, e, h⟩ => ⟨k, e, ?_⟩⟩
  cases k with
  | true => exact h
  | false => exact ⟨false, rfl, h⟩
theorem xt_not (h : XT X a σ H fun c H1 => R (!c) H1) : XT X (.UnaryOp .Not a pos) σ H R := ⟨_, pt_not XT.pt, h⟩
theorem xt_bool {op : BoolOp} {es : List Expr} (h : XW X (.BoolOp op es pos) σ H R) : XT X (.BoolOp op es pos) σ H R := ⟨_, XW.pw.pt, h⟩
theorem xw_and {rest : List Expr} (h : XT X a σ H fun c H1 => if c = true then XW X (.BoolOp .And (b :: rest) pos) σ H1 R else R false H1) : XW X (.BoolOp .And (a :: b :: rest) pos) σ H R := ⟨_, pw_and XT.pt XW.pw, h⟩
theorem xw_and1 (h : XT X a σ H R) : XW X (.BoolOp .And [a] pos) σ H R := ⟨_, pw_and1 XT.pt, h⟩
theorem xw_or {rest : List Expr} (h : XT X a σ H fun c H1 => if c = true then R true H1 else XW X (.BoolOp .Or (b :: rest) pos) σ H1 R) : XW X (.BoolOp .Or (a :: b :: rest) pos) σ H R := ⟨_, pw_or XT.pt XW.pw, h⟩
theorem xw_or1 (h : XT X a σ H R) : XW X (.BoolOp .Or [a] pos) σ H R := ⟨_, pw_or1 XT.pt, h⟩

/-! ## values: operators, tests, calls -/
variable {i j : Int} {p q : Addr} {xs ys : List V} {v : V}
theorem vo_add (h : Q (.int (i + j)) H) : VO X (binaryOp .Add) (.int i) (.int j) H Q := ⟨_, op_add, i, j, rfl, rfl, h⟩
theorem vo_sub (h : Q (.int (i - j)) H) : VO X (binaryOp .Sub) (.int i) (.int j) H Q := ⟨_, op_sub, i, j, rfl, rfl, h⟩
theorem vo_mul (c : CMul i j) (h : Q (.int (i * j)) H) : VO X (binaryOp .Mult) (.int i) (.int j) H Q := ⟨_, op_mul, i, j, rfl, rfl, c, h⟩
theorem vo_mulX (c : CMulX i j) (h : Q (.int (i * j)) H) : VO X (binaryOp .Mult) (.int i) (.int j) H Q := ⟨_, op_mulX, i, j, rfl, rfl, c, h⟩
theorem vo_fdiv (c : CDiv i j) (h : Q (.int (i / j)) H) : VO X (binaryOp .FloorDiv) (.int i) (.int j) H Q := ⟨_, op_fdiv, i, j, rfl, rfl, c, h⟩
theorem vo_mod (c : 0 < j) (h : Q (.int (i % j)) H) : VO X (binaryOp .Mod) (.int i) (.int j) H Q := ⟨_, op_mod, i, j, rfl, rfl, c, h⟩
theorem vo_pow (c : CPow i j) (h : Q (.int (i ^ j.toNat)) H) : VO X (binaryOp .Pow) (.int i) (.int j) H Q := ⟨_, op_pow, i, j, rfl, rfl, c, h⟩
theorem vo_shl (c : CPow i j) (h : Q (.int (i * 2 ^ j.toNat)) H) : VO X (binaryOp .LShift) (.int i) (.int j) H Q := ⟨_, op_shl, i, j, rfl, rfl, c, h⟩
theorem vo_and (h : Q (.int (Builtin.bitAnd i j)) H) : VO X (binaryOp .BitAnd) (.int i) (.int j) H Q := ⟨_, op_and, i, j, rfl, rfl, h⟩
theorem vo_lt (h : Q (.bl (decide (i < j))) H) : VO X (compareOp .Lt) (.int i) (.int j) H Q := ⟨_, op_lt, i, j, rfl, rfl, h⟩
theorem vo_le (h : Q (.bl (decide (i ≤ j))) H) : VO X (compareOp .LtE) (.int i) (.int j) H Q := ⟨_, op_le, i, j, rfl, rfl, h⟩
theorem vo_gt (h : Q (.bl (decide (j < i))) H) : VO X (compareOp .Gt) (.int i) (.int j) H Q := ⟨_, op_gt, i, j, rfl, rfl, h⟩
theorem vo_ge (h : Q (.bl (decide (j ≤ i))) H) : VO X (compareOp .GtE) (.int i) (.int j) H Q := ⟨_, op_ge, i, j, rfl, rfl, h⟩
theorem vo_eq (h : Q (.bl (decide (i = j))) H) : VO X (compareOp .Eq) (.int i) (.int j) H Q := by
  refine ⟨_, op_eq, rfl, ?_⟩
  have e : decide (V.int i = V.int j) = decide (i = j) := by by_cases e : i = j <;> simp [e]
  rw [e]; exact h
theorem vo_ne (h : Q (.bl (!decide (i = j))) H) : VO X (compareOp .NotEq) (.int i) (.int j) H Q := by
  refine ⟨_, op_ne, rfl, ?_⟩
  have e : decide (V.int i = V.int j) = decide (i = j) := by by_cases e : i = j <;> simp [e]
  rw [e]; exact h
theorem vo_eqB {i j : Bool} (h : Q (.bl (i == j)) H) : VO X (compareOp .Eq) (.bl i) (.bl j) H Q := ⟨_, op_eq, rfl, by rw [dec_bl]; exact h⟩
theorem vo_neB {i j : Bool} (h : Q (.bl (!(i == j))) H) : VO X (compareOp .NotEq) (.bl i) (.bl j) H Q := ⟨_, op_ne, rfl, by rw [dec_bl]; exact h⟩
theorem vo_isB {i j : Bool} (h : Q (.bl (decide (i = j))) H) : VO X (compareOp .Is) (.bl i) (.bl j) H Q := ⟨_, op_isBl, i, j, rfl, rfl, h⟩
theorem vo_notB {i j : Bool} (h : Q (.bl (!decide (i = j))) H) : VO X (compareOp .IsNot) (.bl i) (.bl j) H Q := ⟨_, op_notBl, i, j, rfl, rfl, h⟩
theorem vo_isN (h : Q (.bl (decide (v = .non))) H) : VO X (compareOp .Is) v .non H Q := ⟨_, op_isN, rfl, h⟩
theorem vo_notN (h : Q (.bl (!decide (v = .non))) H) : VO X (compareOp .IsNot) v .non H Q := ⟨_, op_notN, rfl, h⟩
theorem vo_catT (hx : SqT X.K H p xs) (hy : SqT X.K H q ys) (hz : xs.length + ys.length ≤ sizeLine) (h : ∀ r H', Kp [] H H' → SqT X.K H' r (xs ++ ys) → Q (.ref r) H') : VO X (binaryOp .Add) (.ref p) (.ref q) H Q := by
  refine ⟨_, op_catA, p, q, xs, ys, rfl, rfl, hx, hy, hz, fun e => ?_, fun _ e => ?_, fun _ _ r hr => h r _ (Kp.new hr) (.inl (.inl upd_same))⟩
  · subst e; exact h q H (Kp.refl _ _) hy
  · subst e; exact h p H (Kp.refl _ _) (by simpa using hx)
theorem vo_catL (hx : H p = some (.lst xs)) (hy : H q = some (.lst ys)) (hz : xs.length + ys.length ≤ sizeLine) (h : ∀ r H', Kp [] H H' → H r = none → H' r = some (.lst (xs ++ ys)) → Q (.ref r) H') : VO X (binaryOp .Add) (.ref p) (.ref q) H Q :=
  ⟨_, op_cat, p, q, xs, ys, rfl, rfl, hx, hy, hz, new_ h⟩
theorem vu_neg (h : Q (.int (-i)) H) : VU X (unaryOp .USub) (.int i) H Q := ⟨_, un_neg, i, rfl, h⟩
theorem vx_tup (hx : SqT X.K H p xs) (hi : atI xs i = some v) (h : Q v H) : VX X (.ref p) (.int i) H Q := ⟨_, ix_tup, p, xs, i, v, rfl, rfl, hx, hi, h⟩
theorem vx_lst (hx : SqL X.K H p xs) (hi : atI xs i = some v) (h : Q v H) : VX X (.ref p) (.int i) H Q := ⟨_, ix_list, p, xs, i, v, rfl, rfl, hx, hi, h⟩
theorem vsl_tup {lo hi : Option Int} (hx : SqT X.K H p xs) (h : ∀ r H', Kp [] H H' → SqT X.K H' r (cutV xs lo hi) → Q (.ref r) H') : VSl X (.ref p) lo hi H Q := by
  refine ⟨_, sl_tupA, p, xs, rfl, hx, fun e => ?_, fun _ r hr => h r _ (Kp.new hr) (.inl (.inl upd_same))⟩
  refine h p H (Kp.refl _ _) ?_
  have e2 : cutV xs lo hi = xs := by unfold cutV; rw [e.1, e.2]; simp
  rw [e2]; exact hx
theorem vsl_lst {lo hi : Option Int} (hx : SqL X.K H p xs) (h : ∀ r H', Kp [] H H' → H r = none → H' r = some (.lst (cutV xs lo hi)) → Q (.ref r) H') : VSl X (.ref p) lo hi H Q := ⟨_, sl_list, p, xs, rfl, hx, new_ h⟩
theorem vt_bl {c : Bool} (h : R c H) : VT X (.bl c) H R := ⟨c, rfl, h⟩
theorem vt_int (h : R (i != 0) H) : VT X (.int i) H R := ⟨_, rfl, h⟩
theorem vt_tup (hx : SqT X.K H p xs) (h : R (!xs.isEmpty) H) : VT X (.ref p) H R := ⟨_, .inr (.inl ⟨xs, hx, rfl⟩), h⟩
theorem vt_lst (hx : SqL X.K H p xs) (h : R (!xs.isEmpty) H) : VT X (.ref p) H R := ⟨_, .inl ⟨xs, hx, rfl⟩, h⟩
theorem vc_lenT (hx : SqT X.K H p xs) (h : Q (.int xs.length) H) : VC X (.builtin "len") [.ref p] H Q := ⟨_, call_len_seq, p, xs, rfl, .inr hx, h⟩
theorem vc_lenL (hx : SqL X.K H p xs) (h : Q (.int xs.length) H) : VC X (.builtin "len") [.ref p] H Q := ⟨_, call_len_seq, p, xs, rfl, .inl hx, h⟩
theorem vc_int (h : Q (.int i) H) : VC X (.type "int") [.int i] H Q := ⟨_, call_int1, .inl ⟨i, rfl, h⟩⟩
theorem vc_intB {c : Bool} (h : Q (.int (if c then 1 else 0)) H) : VC X (.type "int") [.bl c] H Q := ⟨_, call_int1, .inr ⟨c, rfl, h⟩⟩
theorem vc_abs (h : Q (.int (if i < 0 then -i else i)) H) : VC X (.builtin "abs") [.int i] H Q := ⟨_, call_abs, i, rfl, h⟩
theorem vc_listT (hx : SqT X.K H p xs) (h : ∀ r H', Kp [] H H' → H r = none → H' r = some (.lst xs) → Q (.ref r) H') : VC X (.type "list") [.ref p] H Q := ⟨_, call_list_of, p, xs, rfl, .inr hx, new_ h⟩
theorem vc_listL (hx : SqL X.K H p xs) (h : ∀ r H', Kp [] H H' → H r = none → H' r = some (.lst xs) → Q (.ref r) H') : VC X (.type "list") [.ref p] H Q := ⟨_, call_list_of, p, xs, rfl, .inl hx, new_ h⟩
theorem vc_tupL (hx : SqL X.K H p xs) (h : ∀ r H', Kp [] H H' → SqT X.K H' r xs → Q (.ref r) H') : VC X (.type "tuple") [.ref p] H Q := ⟨_, call_tuple_of, p, xs, rfl, .inl ⟨hx, newT h⟩⟩
theorem vc_isi {x : V} {t c : String} {u : Bool} (ht : TyX X.K H x (.type t)) (hk : kitB t c = some u) (h : Q (.bl u) H) : VC X (.builtin "isinstance") [x, .ty c] H Q := ⟨_, call_isi, x, .ty c, .type t, .type c, u, rfl, .ty c, ht, kit_ty hk, h⟩

/-! ## calls -/
/-- a def of the module and its promise -/
structure DefOk (P : Program) (w : World) (K : PySem.W.Frag) (mg : Str → Option Value) (base : Heap) (x : Str) (ps : List Str) (k : Nat) (sp : Sp) : Prop where
  ex : ∃ f fd, FnOk P w K mg base CX0 k f fd ps sp ∧ mg x = some (.ref f) ∧ PySem.W.keepIn K (.ref f) = true ∧ Binds K fd ps []
variable {x : Str} {ps : List Str} {k' : Nat} {sp : Sp}
theorem xe_call (C : Ctx X sc N Vs Ls G k) (F : DefOk X.prog X.w X.K X.mg X.base x ps k' sp) (hg : Mem G x) (hk : k' ≤ k) (h : XA X (a :: es) σ H fun vs H1 => sp vs H1 Q E0)
    (hdb : (x == ("__debug__" : Str)) = false := by decide) (he : starEach (a :: es) X.env = (false, eval a X.env) :: starEach es X.env := by rfl) (hpl : (backTo pos (starEach es X.env)).any (·.1) = false := by rfl) : XE X (.Call (.Name x p1) (a :: es) [] pos) σ H Q := by
  obtain ⟨f, fd, F, hm, kp, b⟩ := F.ex
  exact ⟨_, pe_call F (C.room.mono hk) (C.gl hg) hm kp b .nil pass0 XA.pa hdb he hpl, by
    refine XA.mono h fun vs H1 q => ?_
    rw [List.append_nil]; exact q⟩
theorem xe_callB {id : String} (C : Ctx X sc N Vs Ls G k) (hg : Mem G x) (hm : X.mg x = none) (hv : bootBuiltins x = some (.builtin id)) (h : XA X (a :: es) σ H fun vs H1 => VC X (.builtin id) vs H1 Q)
    (hn : x ≠ "__name__" := by decide) (hdb : (x == ("__debug__" : Str)) = false := by decide) (he : starEach (a :: es) X.env = (false, eval a X.env) :: starEach es X.env := by rfl) (hpl : (backTo pos (starEach es X.env)).any (·.1) = false := by rfl) :
    XE X (.Call (.Name x p1) (a :: es) [] pos) σ H Q := ⟨_, pe_callB VC.ok (C.gl hg) hm hv XA.pa hn hdb he hpl, h⟩
theorem xe_callTy {id : String} (C : Ctx X sc N Vs Ls G k) (hg : Mem G x) (hm : X.mg x = none) (hv : bootBuiltins x = some (.type id)) (h : XA X (a :: es) σ H fun vs H1 => VC X (.type id) vs H1 Q)
    (hn : x ≠ "__name__" := by decide) (hdb : (x == ("__debug__" : Str)) = false := by decide) (he : starEach (a :: es) X.env = (false, eval a X.env) :: starEach es X.env := by rfl) (hpl : (backTo pos (starEach es X.env)).any (·.1) = false := by rfl) :
    XE X (.Call (.Name x p1) (a :: es) [] pos) σ H Q := ⟨_, pe_callTy VC.ok (C.gl hg) hm hv XA.pa hn hdb he hpl, h⟩
/-- a built-in type's name as a value -/
theorem xe_ty {id : String} (C : Ctx X sc N Vs Ls G k) (hg : Mem G x) (hm : X.mg x = none) (hv : bootBuiltins x = some (.type id)) (h : Q (.ty id) H) (hn : x ≠ "__name__" := by decide) (hdb : (x == ("__debug__" : Str)) = false := by decide) : XE X (.Name x pos) σ H Q :=
  ⟨_, pe_bltn (v := .ty id) (C.gl hg) hm hv rfl hn hdb, h⟩
/-- n.bit_length() -/
theorem xe_bits {apos : Pos} (h : XE X a σ H fun y H1 => ∃ i, y = .int i ∧ Q (.int (Builtin.Int.intBits i : Nat)) H1) (hbase : attributeBase a "bit_length" X.env (eval a X.env) = eval a X.env := by rfl) (hline : (apos.endLine == pos.line) = true := by rfl) :
    XE X (.Call (.Attribute a "bit_length" apos) [] [] pos) σ H Q := ⟨_, pe_bits XE.pe hbase hline, h⟩
/-- o.f -/
theorem xe_fld {f : Str} (h : XE X a σ H fun y H1 => ∃ p C dx fs v, y = .ref p ∧ H1 p = some (.ins C dx fs) ∧ Cls X.K C ∧ NoAttr X.K C f ∧ fs.lookup f = some v ∧ Q v H1) (hb : attributeBase a f X.env (eval a X.env) = eval a X.env := by rfl) : XE X (.Attribute a f pos) σ H Q :=
  ⟨_, pe_fld XE.pe hb, h⟩
/-- xs.append(y) -/
theorem xe_append {apos : Pos} (h : XE X a σ H fun y H1 => ∃ l xs, y = .ref l ∧ H1 l = some (.lst xs) ∧ XE X b σ H1 fun z H2 => H2 l = some (.lst xs) ∧ xs.length < sizeLine ∧ ∀ H', Kp [l] H2 H' → H' l = some (.lst (xs ++ [z])) → Q .non H')
    (hbase : attributeBase a "append" X.env (eval a X.env) = eval a X.env := by rfl) (hs : starEach (b :: []) X.env = (false, eval b X.env) :: starEach [] X.env := by rfl) (hline : (apos.endLine == pos.line) = true := by rfl)
    (hfew : ((backTo pos (starEach [b] X.env)).all (fun x => !x.1) && (backToKw pos (keywordEach [] X.env)).all (fun x => x.1.isSome) && decide (([b] : List Expr).length + ([] : List Keyword).length + (if ([] : List Keyword).isEmpty then 0 else 1) < 30)) = true := by rfl)
    : XE X (.Call (.Attribute a "append" apos) [b] [] pos) σ H Q := by
  refine ⟨_, pe_bm PySem.F.plainAttrs_list PySem.F.slot_list_append PySem.F.type_list_append mt_append XE.pe XA.pa hbase hfew hline hs, ?_⟩
  refine XE.mono h fun y H1 ⟨l, xs, e, hl, q⟩ => ?_
  subst e
  refine ⟨.inl ⟨rfl, xs, .inl (.inl hl)⟩, xa_cons (hs := hs) (XE.mono q fun z H2 ⟨hl2, hz, q⟩ => xa_nil ?_)⟩
  exact ⟨l, xs, z, rfl, rfl, hl2, hz, q _ (Kp.set hl2 rfl) upd_same⟩

/-! ## statements -/
variable {s : Stmt} {sts sts' : List Stmt}
theorem xb_nil (h : nx σ H) : XB X [] nx D σ H := ⟨_, pss_nil, h⟩
theorem xb_cons (h : XS X s (fun σ' H' => XB X sts nx D σ' H') D σ H) : XB X (s :: sts) nx D σ H := ⟨_, pss_cons XS.ps XB.ps, h⟩
theorem xs_pass (h : nx σ H) : XS X (.Pass pos) nx D σ H := ⟨_, ps_pass, h⟩
theorem xs_break (h : D.bk σ H) : XS X (.Break pos) nx D σ H := ⟨_, ps_break, h⟩
theorem xs_cont (h : D.ct σ H) : XS X (.Continue pos) nx D σ H := ⟨_, ps_continue, h⟩
theorem xs_expr (h : XE X e σ H fun _ H1 => nx σ H1) (hs : swapsWith e none pos.line X.env = pure false := by rfl) : XS X (.Expr e pos) nx D σ H := ⟨_, ps_expr XE.pe hs, h⟩
theorem xs_ret (h : XE X e σ H D.rt) : XS X (.Return (some e) pos) nx D σ H := ⟨_, ps_ret XE.pe, h⟩
theorem xs_retN (h : D.rt .non H) : XS X (.Return none pos) nx D σ H := ⟨_, ps_retN, h⟩
theorem xs_if {c : Expr} (h : XT X c σ H fun k H1 => if k = true then XB X sts nx D σ H1 else XB X sts' nx D σ H1) : XS X (.If c sts sts' pos) nx D σ H := ⟨_, ps_if XT.pt XB.ps XB.ps, h⟩
theorem xs_set (C : Ctx X sc N Vs Ls G k) (h : XE X e σ H fun v H1 => ∃ σ', Put N σ x v σ' ∧ nx σ' H1) (hs : swapsWith e (some (.Name x p1)) pos.line X.env = pure false := by rfl) (hx : Mem N x) (hl : Mem Ls x) : XS X (.Assign [.Name x p1] e pos) nx D σ H := by
  have hx' := hx.mem
  obtain ⟨i, hi⟩ := List.getElem?_of_mem hx'
  refine ⟨_, ps_set (i := i) (by rw [C.hN]; exact C.nd) (by rw [C.hN]; exact hi) (C.loc hl) XE.pe hs (.inl (C.fn x hl.mem)), ?_⟩
  refine XE.mono h fun v H1 ⟨σ', hp, q⟩ => ?_
  obtain ⟨j, hj, e⟩ := hp.ix
  have ij : i = j := nd_ix C.nd hi hj
  subst ij
  show nx (σ.set i (some v)) H1
  rw [e]; exact q
theorem xg_name (C : Ctx X sc N Vs Ls G k) {v : V} {Q : St → Hp → Prop} (hx : Mem N x) (hl : Mem Ls x) (h : ∃ σ', Put N σ x v σ' ∧ Q σ' H) : XG X (.Name x p1) v σ H Q := by
  have hx' := hx.mem
  obtain ⟨i, hi⟩ := List.getElem?_of_mem hx'
  refine ⟨_, pg_name (i := i) (by rw [C.hN]; exact C.nd) (by rw [C.hN]; exact hi) (C.loc hl) (.inl (C.fn x hl.mem)), ?_⟩
  obtain ⟨σ', hp, q⟩ := h
  obtain ⟨j, hj, e⟩ := hp.ix
  have ij : i = j := nd_ix C.nd hi hj
  subst ij
  show Q (σ.set i (some v)) H
  rw [e]; exact q
theorem XG.mono {v : V} {Q Q' : St → Hp → Prop} (h : XG X e v σ H Q) (m : ∀ σ H, Q σ H → Q' σ H) : XG X e v σ H Q' := by
  obtain ⟨t, ht, q⟩ := h
  refine ⟨fun v σ H R => ∃ R', t v σ H R' ∧ ∀ σ H', R' σ H' → R σ H', ⟨fun pins s σ H v u R I r ⟨R', q, m⟩ => ?_⟩, Q, q, m⟩
  exact thn (ht.run pins s σ H v u R' I r q) fun _ s ⟨σ', H', I', z⟩ => ⟨σ', H', I', m _ _ z⟩
/-- a, b, .. = a tuple -/
theorem xg_tup {j : Nat} {v : V} {Q : St → Hp → Prop} (C : Ctx X sc N Vs Ls G k) (h : ∃ p xs, v = .ref p ∧ SqT X.K H p xs ∧ xs.length = (assignEach es X.env).length ∧ XGs X es xs σ H Q) (hst : (assignEach es X.env).findIdx? (·.1) = none := by rfl) : XG X (.Tuple es j pos) v σ H Q :=
  ⟨_, pg_tup C.calm XGs.pgs rfl hst, h⟩
/-- o[i] = v -/
theorem xs_setIx {o i : Expr} (h : XE X e σ H fun v H1 => XE X o σ H1 fun ov H2 => XE X i σ H2 fun iv H3 => ∃ l xs k j, ov = .ref l ∧ iv = .int k ∧ H3 l = some (.lst xs) ∧ ixN xs.length k = some j ∧ ∀ H', Kp [l] H3 H' → H' l = some (.lst (xs.set j v)) → nx σ H')
    (ha : ∀ v, assign (.Subscript o i p1) X.env v = (do
      let z1 ← holding [v] (eval o X.env)
      let z2 ← holding [v, z1] (eval i X.env)
      standAt p1; holding [v, z1, z2] (setItem z1 z2 v)
      release [v, z1, z2] []) := by intro _; rfl)
    (hs : swapsWithSole [.Subscript o i p1] e pos.line X.env = pure false := by rfl) (hw : swappedStores [.Subscript o i p1] e X.env = pure none := by rfl)
    (h1 : (assignEach [.Subscript o i p1] X.env).map (·.2) = [assign (.Subscript o i p1) X.env] := by rfl) : XS X (.Assign [.Subscript o i p1] e pos) nx D σ H := by
  refine ⟨_, ps_asg XE.pe (pg_sub XE.pe XE.pe set_list ha) hs hw h1, ?_⟩
  refine XE.mono h fun v H1 h => XE.mono h fun ov H2 h => XE.mono h fun iv H3 ⟨l, xs, k, j, e1, e2, hl, hj, q⟩ => ?_
  exact ⟨l, xs, k, j, e1, e2, hl, hj, q _ (Kp.set hl rfl) upd_same⟩
theorem XB.imp {nx' : St → Hp → Prop} (h : XB X sts nx D σ H) (m : ∀ σ H, nx σ H → nx' σ H) : XB X sts nx' D σ H := by
  obtain ⟨t, ht, q⟩ := h
  refine ⟨fun D σ H => ∃ nx0, t ⟨nx0, D.rt, D.bk, D.ct⟩ σ H ∧ ∀ σ H, nx0 σ H → D.nx σ H, ⟨fun pins s σ H D I ⟨nx0, q, m⟩ => thn (ht.run pins s σ H _ I q) fun f s1 z => ?_⟩, nx, q, m⟩
  cases f with
  | next => obtain ⟨σ', H', I', z⟩ := z; exact ⟨σ', H', I', m _ _ z⟩
  | brk => exact z
  | cont => exact z
  | ret u => exact z

/-! ## loops -/
variable {tg iter : Expr} {body : List Stmt}
/-- for x in a tuple; a list that stands still; a range -/
theorem xs_forT (C : Ctx X sc N Vs Ls G k) (h : XE X iter σ H fun v H1 => ∃ a xs, v = .ref a ∧ SqT X.K H1 a xs ∧ ∃ Pv : Nat → St → Hp → Prop, Pv 0 σ H1 ∧ (∀ i σ' H', i ≤ xs.length → Pv i σ' H' → SqT X.K H' a xs) ∧
    (∀ i y σ' H', xs[i]? = some y → Pv i σ' H' → XG X tg y σ' H' fun σ2 H2 => XB X body (Pv (i + 1)) ⟨D.rt, nx, Pv (i + 1)⟩ σ2 H2) ∧ ∀ σ' H', Pv xs.length σ' H' → nx σ' H')
    (hs : ∀ x, foldedSetIterable iter X.env x = pure x := by intro _; rfl) : XS X (.For tg iter body [] pos) nx D σ H := by
  refine ⟨_, ps_for C.po C.calm (pi_tup XE.pe) XG.pg XB.ps hs, ?_⟩
  refine XE.mono h fun v H1 ⟨a, xs, e, hx, Pv, h0, hl, hs, hd⟩ => ⟨a, e, ⟨xs, hx⟩, ?_⟩
  exact for_tup (K := X.K) (a := a) (xs := xs) (D := ⟨nx, D.rt, D.bk, D.ct⟩) (g := XG X tg) (tb := fun D σ H => XB X body D.nx ⟨D.rt, D.bk, D.ct⟩ σ H) Pv h0 hl hs hd
theorem xs_forL (C : Ctx X sc N Vs Ls G k) (h : XE X iter σ H fun v H1 => ∃ a xs, v = .ref a ∧ SqL X.K H1 a xs ∧ ∃ Pv : Nat → St → Hp → Prop, Pv 0 σ H1 ∧ (∀ i σ' H', i ≤ xs.length → Pv i σ' H' → SqL X.K H' a xs) ∧
    (∀ i y σ' H', xs[i]? = some y → Pv i σ' H' → XG X tg y σ' H' fun σ2 H2 => XB X body (Pv (i + 1)) ⟨D.rt, nx, Pv (i + 1)⟩ σ2 H2) ∧ ∀ σ' H', Pv xs.length σ' H' → nx σ' H')
    (hs : ∀ x, foldedSetIterable iter X.env x = pure x := by intro _; rfl) : XS X (.For tg iter body [] pos) nx D σ H := by
  refine ⟨_, ps_for C.po C.calm (pi_list XE.pe) XG.pg XB.ps hs, ?_⟩
  refine XE.mono h fun v H1 ⟨a, xs, e, hx, Pv, h0, hl, hs, hd⟩ => ⟨a, e, ⟨xs, hx⟩, ?_⟩
  exact for_list (K := X.K) (a := a) (xs := xs) (D := ⟨nx, D.rt, D.bk, D.ct⟩) (g := XG X tg) (tb := fun D σ H => XB X body D.nx ⟨D.rt, D.bk, D.ct⟩ σ H) Pv h0 hl hs hd
theorem xs_forR1 (C : Ctx X sc N Vs Ls G k) (hg : Mem G "range") (hm : X.mg "range" = none) (h : XA X [a] σ H fun vs H1 => ∃ j : Int, vs = [.int j] ∧ -(2 ^ 62) ≤ j ∧ j < 2 ^ 62 ∧ ∃ Pv : Nat → St → Hp → Prop, Pv 0 σ H1 ∧
    (∀ i σ' H', i < j.toNat → Pv i σ' H' → XG X tg (.int i) σ' H' fun σ2 H2 => XB X body (Pv (i + 1)) ⟨D.rt, nx, Pv (i + 1)⟩ σ2 H2) ∧ ∀ σ' H', Pv j.toNat σ' H' → nx σ' H')
    (hst : starEach [a] X.env = [(false, eval a X.env)] := by rfl) (hs : ∀ x, foldedSetIterable (.Call (.Name "range" p1) [a] [] p2) X.env x = pure x := by intro _; rfl) : XS X (.For tg (.Call (.Name "range" p1) [a] [] p2) body [] pos) nx D σ H := by
  refine ⟨_, ps_for C.po C.calm (pi_range1 (C.gl hg) hm XA.pa hst) XG.pg XB.ps hs, ?_⟩
  refine XA.mono h fun v H1 ⟨j, e, h1, h2, Pv, h0, hs, hd⟩ => ⟨j, e, h1, h2, ?_⟩
  refine for_range (lo := 0) (n := j.toNat) (D := ⟨nx, D.rt, D.bk, D.ct⟩) (g := XG X tg) (tb := fun D σ H => XB X body D.nx ⟨D.rt, D.bk, D.ct⟩ σ H) Pv h0 (fun i σ H hi p => ?_) hd
  rw [Int.zero_add]; exact hs i σ H hi p
theorem xs_forR2 (C : Ctx X sc N Vs Ls G k) (hg : Mem G "range") (hm : X.mg "range" = none) (h : XA X [a, b] σ H fun vs H1 => ∃ l j : Int, vs = [.int l, .int j] ∧ (-(2 ^ 62) ≤ l ∧ l < 2 ^ 62 ∧ -(2 ^ 62) ≤ j ∧ j < 2 ^ 62) ∧ ∃ Pv : Nat → St → Hp → Prop, Pv 0 σ H1 ∧
    (∀ i σ' H', i < (j - l).toNat → Pv i σ' H' → XG X tg (.int (l + i)) σ' H' fun σ2 H2 => XB X body (Pv (i + 1)) ⟨D.rt, nx, Pv (i + 1)⟩ σ2 H2) ∧ ∀ σ' H', Pv (j - l).toNat σ' H' → nx σ' H')
    (hst : starEach [a, b] X.env = [(false, eval a X.env), (false, eval b X.env)] := by rfl) (hs2 : starEach [b] X.env = [(false, eval b X.env)] := by rfl)
    (hs : ∀ x, foldedSetIterable (.Call (.Name "range" p1) [a, b] [] p2) X.env x = pure x := by intro _; rfl) : XS X (.For tg (.Call (.Name "range" p1) [a, b] [] p2) body [] pos) nx D σ H := by
  refine ⟨_, ps_for C.po C.calm (pi_range2 (C.gl hg) hm XA.pa hst hs2) XG.pg XB.ps hs, ?_⟩
  refine XA.mono h fun v H1 ⟨l, j, e, h1, Pv, h0, hs, hd⟩ => ⟨l, j, e, h1, ?_⟩
  exact for_range (lo := l) (n := (j - l).toNat) (D := ⟨nx, D.rt, D.bk, D.ct⟩) (g := XG X tg) (tb := fun D σ H => XB X body D.nx ⟨D.rt, D.bk, D.ct⟩ σ H) Pv h0 hs hd

/-- x op= e, x a plain name -/
theorem VIp.mono {op : Operator} {x y : V} {Q' : VK} (h : VIp X op x y H Q) (m : ∀ v H', Q v H' → Q' v H') : VIp X op x y H Q' := by
  obtain ⟨t, ht, q⟩ := h
  exact ⟨fun x y H R => ∃ R', t x y H R' ∧ ∀ v H', R' v H' → R v H', fun pins s σ H x y v u R I rx ry ⟨R', q, m⟩ => thn (ht pins s σ H x y v u R' I rx ry q) fun v s ⟨x, H', I', r, z⟩ => ⟨x, H', I', r, m _ _ z⟩, Q, q, m⟩
theorem xs_aug {x : Str} {v : V} {op : Operator} (C : Ctx X sc N Vs Ls G k) (ha : At N σ x v) (hl : Mem Ls x) (h : XE X e σ H fun y H1 => VIp X op v y H1 fun z H2 => ∃ σ', Put N σ x z σ' ∧ nx σ' H2) : XS X (.AugAssign (.Name x p1) op e pos) nx D σ H := by
  obtain ⟨i, hi, hv⟩ := ha.ix
  refine ⟨_, ps_aug (i := i) (by rw [C.hN]; exact C.nd) (by rw [C.hN]; exact hi) (C.loc hl) XE.pe VIp.ok (.inl (C.fn x hl.mem)), v, hv, ?_⟩
  refine XE.mono h fun y H1 h => VIp.mono h fun z H2 ⟨σ', hp, q⟩ => ?_
  obtain ⟨j, hj, e⟩ := hp.ix
  have ij : i = j := nd_ix C.nd hi hj
  subst ij
  show nx (σ.set i (some z)) H2
  rw [e]; exact q
theorem vip_add {i j : Int} (h : Q (.int (i + j)) H) : VIp X .Add (.int i) (.int j) H Q := ⟨_, ip_add, i, j, rfl, rfl, h⟩
theorem vip_sub {i j : Int} (h : Q (.int (i - j)) H) : VIp X .Sub (.int i) (.int j) H Q := ⟨_, ip_sub, i, j, rfl, rfl, h⟩
/-- for a, b in zip of two lists of one length -/
theorem xs_forZ {elts : List Expr} {kk : Nat} {tpos : Pos} (C : Ctx X sc N Vs Ls G k) (hg : Mem G "zip") (hm : X.mg "zip" = none) (h : XA X [a, b] σ H fun vs H1 => ∃ p q xs ys, vs = [.ref p, .ref q] ∧ SqL X.K H1 p xs ∧ SqL X.K H1 q ys ∧ xs.length = ys.length ∧ ∃ Pv : Nat → St → Hp → Prop, Pv 0 σ H1 ∧
    (∀ i σ' H', Pv i σ' H' → SqL X.K H' p xs ∧ SqL X.K H' q ys) ∧ (∀ i x y T σ' H' H2, xs[i]? = some x → ys[i]? = some y → Pv i σ' H' → Kp [] H' H2 → SqT X.K H2 T [x, y] → XG X (.Tuple elts kk tpos) (.ref T) σ' H2 fun σ3 H3 => XB X body (Pv (i + 1)) ⟨D.rt, nx, Pv (i + 1)⟩ σ3 H3) ∧ ∀ σ' H', Pv xs.length σ' H' → nx σ' H')
    (hs : starEach [a, b] X.env = (false, eval a X.env) :: starEach [b] X.env := by rfl) (hpl : (backTo p2 (starEach [b] X.env)).any (·.1) = false := by rfl) (hfs : ∀ x, foldedSetIterable (.Call (.Name "zip" p1) [a, b] [] p2) X.env x = pure x := by intro _; rfl) : XS X (.For (.Tuple elts kk tpos) (.Call (.Name "zip" p1) [a, b] [] p2) body [] pos) nx D σ H := by
  refine ⟨_, ps_for C.po C.calm (pi_zip (C.gl hg) hm XA.pa hs hpl) XG.pg XB.ps hfs, ?_⟩
  refine XA.mono h fun vs H1 ⟨p, q, xs, ys, e, hx, hy, hl, Pv, h0, hq, hs, hd⟩ => ⟨p, q, xs, ys, e, hx, hy, ?_⟩
  exact RZ.for_zipL (K := X.K) (a := p) (b := q) (xs := xs) (ys := ys) (D := ⟨nx, D.rt, D.bk, D.ct⟩) (g := XG X (.Tuple elts kk tpos)) (tb := fun D σ H => XB X body D.nx ⟨D.rt, D.bk, D.ct⟩ σ H) hl Pv h0 hq
    (fun i x y T σ H hx hy hp hT => hs i x y T σ H _ hx hy hp (Kp.new hT) (.inl (.inl upd_same))) hd
/-! ## zip of a list and a tuple -/
/-- a list at a and a tuple at b as each turn finds them -/
def ItzM (K : PySem.W.Frag) (a b : Addr) : It where
  go := fun i H => ∃ xs ys x y, (SqL K H a xs ∧ xs[i]? = some x) ∧ SqT K H b ys ∧ ys[i]? = some y
  yld := fun i H v H' => ∃ T x y, (v = .ref T ∧ H' = upd H T (.tup [x, y]) ∧ H T = none) ∧ (∀ l, SqL K H a l → l[i]? = some x) ∧ ∀ t, SqT K H b t → t[i]? = some y
  stop := fun i H => ∃ xs ys, SqL K H a xs ∧ SqT K H b ys ∧ min xs.length ys.length = i
def tnM (z TI TO i1 i2 a b : Addr) (i : Nat) (h : Heap) : Prop :=
  IsZip h z TI TO .none ∧ IsTupOf2 h TI (.ref i1) (.ref i2) ∧ (∃ a1 a2, IsTupOf2 h TO a1 a2) ∧ h.IsListIter i1 a i ∧ h.IsTupleIter i2 b i
theorem turn_zipM {P : Program} {w : World} {K : PySem.W.Frag} {elts : List Expr} {kk : Nat} {tpos : Pos} {a b z TI TO i1 i2 : Addr} (S : ZipSep2 z TI TO i1 i2 [i1, a] [i2, b]) (n1 : a ≠ i1) (n2 : b ≠ i2) :
    Turn P w K (.Tuple elts kk tpos) (ItzM K a b) [z, TI, TO, i1, i2] z (tnM z TI TO i1 i2 a b) where
  mem := .head _
  obj := by
    rintro i h ⟨q1, q2, ⟨u1, u2, q3⟩, ⟨o1, e1, k1, d1⟩, o2, e2, k2, d2⟩ c hc
    simp only [List.mem_cons, List.not_mem_nil, or_false] at hc
    rcases hc with rfl | rfl | rfl | rfl | rfl
    · exact ⟨_, q1, nofun⟩
    · exact ⟨_, q2, nofun⟩
    · exact ⟨_, q3, nofun⟩
    · exact ⟨_, e1, fun v q => nomatch d1.symm.trans q⟩
    · exact ⟨_, e2, fun v q => nomatch d2.symm.trans q⟩
  keep := by
    rintro i h h' ⟨q1, q2, ⟨u1, u2, q3⟩, q4, q5⟩ k
    exact ⟨k _ (by simp) _ q1, k _ (by simp) _ q2, ⟨u1, u2, k _ (by simp) _ q3⟩, q4.at (k _ (by simp)), q5.at (k _ (by simp))⟩
  item := by
    rintro X rfl rfl rfl hc i pins s σ H E I hf st ⟨xs, ys, x, y, ⟨lx, ex⟩, ty, ey⟩
    have ⟨its, rv, p, _⟩ := I.list lx
    have ⟨its2, rv2, p2, _⟩ := I.tuple ty
    have ⟨u, hu, ru⟩ := rv.get ex
    have ⟨u2, hu2, ru2⟩ := rv2.get ey
    have hh := I.ok.hd hc
    have D1 := Draws.list (prog := X.prog) (w := X.w) (A := X.A.in1) hh i1 a n1 its.toArray
    have D2 := Draws.tuple (prog := X.prog) (w := X.w) (A := X.A.in1) hh i2 b n2 its2.toArray
    have W := GoesN.zip2 (elts := elts) (x1 := kk) (pos := tpos) S D1 D2
    have b1 : i < its.length := (List.getElem?_eq_some_iff.1 hu).1
    have b2 : i < its2.length := (List.getElem?_eq_some_iff.1 hu2).1
    refine W.goes i s (fun v s2 => ∃ x H', Inv X pins σ H' s2 ∧ RelV x v ∧ (ItzM X.K a b).yld i H x H' ∧ tnM z TI TO i1 i2 a b (i + 1) s2.heap ∧ ∀ b ∈ [z, TI, TO, i1, i2], H' b = none) E (by simp; omega) ⟨st.1, st.2.1, st.2.2.1, ⟨st.2.2.2.1, p.isList⟩, st.2.2.2.2, p2⟩ ?_
    rintro v h' tk ⟨T, v1, v2, rfl, hn, hv1, hv2, hT⟩ ⟨r1, r2, r3, ⟨r4, _⟩, r5, _⟩ hk _
    have c1 : v1 = u := by simpa [hu] using hv1.symm
    have c2 : v2 = u2 := by simpa [hu2] using hv2.symm
    subst c1 c2
    have new : ObjOk X.prog X.w (upd H T (.tup [x, y])) h' T (.tup [x, y]) := ⟨by show 2 ≤ sizeLine; decide, [v1, v2], .cons ru (.cons ru2 .nil), hT⟩
    refine ⟨.ref T, _, I.turnedNew (t' := tk) (ch := [z, TO, i1, i2]) (fun c o hb q => hk c o hb q) (fun c hm => hf c ?_) hn new, rfl, ⟨T, x, y, ⟨rfl, rfl, I.hok.fresh hn⟩, fun l hl => ?_, fun t ht => ?_⟩, ⟨r1, r2, r3, r4, r5⟩, fun c hm => ?_⟩
    · simp only [List.mem_cons, List.not_mem_nil, or_false] at hm ⊢
      rcases hm with e | e | e | e <;> simp [e]
    · exact I.list_inj hl lx ▸ ex
    · exact I.tuple_inj ht ty ▸ ey
    · have hl : c < s.heap.objs.size := by
        obtain ⟨q1, q2, ⟨_, _, q3⟩, ⟨_, q4, _⟩, _, q5, _⟩ := st
        simp only [List.mem_cons, List.not_mem_nil, or_false] at hm
        rcases hm with rfl | rfl | rfl | rfl | rfl
        · exact Heap.lt_size q1
        · exact Heap.lt_size q2
        · exact Heap.lt_size q3
        · exact Heap.lt_size q4
        · exact Heap.lt_size q5
      exact (upd_ne (Nat.ne_of_lt (Nat.lt_of_lt_of_le hl hn))).trans (hf c hm).1
  done := by
    rintro X rfl rfl rfl hc i pins s σ H E I hf st ⟨xs, ys, lx, ty, e⟩
    have ⟨its, rv, p, _⟩ := I.list lx
    have ⟨its2, rv2, p2, _⟩ := I.tuple ty
    have hh := I.ok.hd hc
    have D1 := Draws.list (prog := X.prog) (w := X.w) (A := X.A.in1) hh i1 a n1 its.toArray
    have D2 := Draws.tuple (prog := X.prog) (w := X.w) (A := X.A.in1) hh i2 b n2 its2.toArray
    have W := GoesN.zip2 (elts := elts) (x1 := kk) (pos := tpos) S D1 D2
    have hi : min its.toArray.size its2.toArray.size = i := by
      have l1 := rv.length
      have l2 := rv2.length
      simp; omega
    refine W.stops s (fun s1 => Inv X pins σ H s1) E (by rw [hi]; exact ⟨st.1, st.2.1, st.2.2.1, ⟨st.2.2.2.1, p.isList⟩, st.2.2.2.2, p2⟩) ?_
    intro h' tk hk _
    refine I.turnedL (t' := tk) (ch := [z, TO, i1, i2]) (fun c o hb q => hk c o hb q) fun c hm => hf c ?_
    simp only [List.mem_cons, List.not_mem_nil, or_false] at hm ⊢
    rcases hm with e | e | e | e <;> simp [e]
  self := fun A i s Q E st h => wpAny_pyIter_zip st.1 h
def iZipM (K : PySem.W.Frag) (ta : TA) : TI := fun σ H R => ta σ H fun vs H1 => ∃ a b xs ys, vs = [.ref a, .ref b] ∧ (SqL K H1 a xs ∧ SqT K H1 b ys) ∧ R (ItzM K a b) H1
theorem pi_zipM {X : Cx} {e e2 : Expr} {ta : TA} {p pos tpos : Pos} {elts : List Expr} {kk : Nat} (hg : Gl X "zip") (hm : X.mg "zip" = none) (ha : PA X [e, e2] ta)
    (hs : starEach [e, e2] X.env = (false, eval e X.env) :: starEach [e2] X.env) (hpl : (backTo pos (starEach [e2] X.env)).any (·.1) = false) :
    PI X (.Tuple elts kk tpos) (.Call (.Name "zip" p) [e, e2] [] pos) (iZipM X.K ta) where
  run := by
    intro pins s σ H R I h
    refine PyProof.Rows.Call_ (ld_blt I hg hm PyProof.Rows.boot_zip (PyProof.Rows.callWith_type1 (thn (ha.run pos pins s σ H _ I h) ?_) hs hpl))
    rintro us s1 ⟨vs, H1, I1, r1, a, b, xs, ys, rfl, ⟨lx, ty⟩, q⟩
    match us, r1 with
    | [_, _], .cons r (.cons r' .nil) =>
      cases r
      cases r'
      have ⟨its, _, p1, _⟩ := I1.list lx
      have ⟨its2, _, p2, _⟩ := I1.tuple ty
      have la : a < s1.heap.objs.size := p1.lt
      have lb : b < s1.heap.objs.size := have ⟨_, e, _⟩ := p2; Heap.lt_size e
      refine zip_begins2 (begins_list a its.toArray) (begins_tuple b its2.toArray) p1.isList p2 fun h' q1 q2 q3 q4 q5 _ hk => wpAny_pyIter_zip q1 ?_
      refine ⟨_, [s1.heap.objs.size + 4, s1.heap.objs.size + 2, s1.heap.objs.size + 3, s1.heap.objs.size, s1.heap.objs.size + 1], _, _, H1, rfl, I1.kept (t' := s1.toks) hk, turn_zipM (a := a) (b := b) (zip_sep2 (by simpa using la) (by simpa using lb)) (Nat.ne_of_lt la) (Nat.ne_of_lt (Nat.lt_succ_of_lt lb)), ⟨q1, q2, ⟨_, _, q3⟩, ⟨_, q4, rfl, rfl⟩, ⟨_, q5, rfl, rfl⟩⟩, fun c hm => ?_, q⟩
      have hl : s1.heap.objs.size ≤ c := by
        simp only [List.mem_cons, List.not_mem_nil, or_false] at hm
        rcases hm with rfl | rfl | rfl | rfl | rfl <;> first | exact Nat.le_refl _ | exact Nat.le_add_right _ _
      exact I1.fpOk hl (I1.hok.fresh hl)
theorem for_zipM {K : PySem.W.Frag} {a b : Addr} {xs ys : List V} {g : TG} {tb : TS} {D : Ends} {σ : L2.St} {H : Hp} (hl : xs.length = ys.length) (Pv : Nat → L2.St → Hp → Prop) (h0 : Pv 0 σ H) (hq : ∀ i σ H, Pv i σ H → SqL K H a xs ∧ SqT K H b ys)
    (hs : ∀ (i : Nat) (x y : V) (T : Addr) (σ : L2.St) (H : Hp), xs[i]? = some x → ys[i]? = some y → Pv i σ H → H T = none → g (.ref T) σ (upd H T (.tup [x, y])) fun σ2 H2 => tb ⟨Pv (i + 1), D.rt, D.nx, Pv (i + 1)⟩ σ2 H2) (hd : ∀ σ H, Pv xs.length σ H → D.nx σ H) :
    ∃ W : Nat → Nat → L2.St → Hp → Prop, (∃ m, W 0 m σ H) ∧ ∀ i m σ H, W i m σ H →
      ((ItzM K a b).stop i H ∧ D.nx σ H) ∨ ((ItzM K a b).go i H ∧ ∃ N : L2.St → Hp → Prop, (∀ σ' H', N σ' H' → ∃ m', m' < m ∧ W (i + 1) m' σ' H') ∧ ∀ v H', (ItzM K a b).yld i H v H' → g v σ H' fun σ2 H2 => tb { D with nx := N, ct := N, bk := D.nx } σ2 H2) := by
  refine ⟨fun i m σ H => i ≤ xs.length ∧ m + i = xs.length ∧ Pv i σ H, ⟨_, Nat.zero_le _, rfl, h0⟩, ?_⟩
  rintro i m σ H ⟨hi, hm, p⟩
  have ⟨qx, qy⟩ := hq i σ H p
  rcases Nat.lt_or_ge i xs.length with lt | ge
  · have l2 : i < ys.length := hl ▸ lt
    have ex := List.getElem?_eq_getElem lt
    have ey := List.getElem?_eq_getElem l2
    refine .inr ⟨⟨xs, ys, _, _, ⟨qx, ex⟩, qy, ey⟩, Pv (i + 1), fun σ' H' p' => ⟨m - 1, by omega, lt, by omega, p'⟩, ?_⟩
    rintro v H' ⟨T, x', y', ⟨rfl, rfl, hT⟩, f1, f2⟩
    exact hs i x' y' T σ H (f1 _ qx) (f2 _ qy) p hT
  · obtain rfl : i = xs.length := Nat.le_antisymm hi ge
    exact .inl ⟨⟨xs, ys, qx, qy, by omega⟩, hd σ H p⟩
/-- for a, b in zip of a list and a tuple of one length -/
theorem xs_forZM {elts : List Expr} {kk : Nat} {tpos : Pos} (C : Ctx X sc N Vs Ls G k) (hg : Mem G "zip") (hm : X.mg "zip" = none) (h : XA X [a, b] σ H fun vs H1 => ∃ p q xs ys, vs = [.ref p, .ref q] ∧ SqL X.K H1 p xs ∧ SqT X.K H1 q ys ∧ xs.length = ys.length ∧ ∃ Pv : Nat → St → Hp → Prop, Pv 0 σ H1 ∧
    (∀ i σ' H', Pv i σ' H' → SqL X.K H' p xs ∧ SqT X.K H' q ys) ∧ (∀ i x y T σ' H' H2, xs[i]? = some x → ys[i]? = some y → Pv i σ' H' → Kp [] H' H2 → SqT X.K H2 T [x, y] → XG X (.Tuple elts kk tpos) (.ref T) σ' H2 fun σ3 H3 => XB X body (Pv (i + 1)) ⟨D.rt, nx, Pv (i + 1)⟩ σ3 H3) ∧ ∀ σ' H', Pv xs.length σ' H' → nx σ' H')
    (hs : starEach [a, b] X.env = (false, eval a X.env) :: starEach [b] X.env := by rfl) (hpl : (backTo p2 (starEach [b] X.env)).any (·.1) = false := by rfl) (hfs : ∀ x, foldedSetIterable (.Call (.Name "zip" p1) [a, b] [] p2) X.env x = pure x := by intro _; rfl) : XS X (.For (.Tuple elts kk tpos) (.Call (.Name "zip" p1) [a, b] [] p2) body [] pos) nx D σ H := by
  refine ⟨_, ps_for C.po C.calm (pi_zipM (C.gl hg) hm XA.pa hs hpl) XG.pg XB.ps hfs, ?_⟩
  refine XA.mono h fun vs H1 ⟨p, q, xs, ys, e, hx, hy, hl, Pv, h0, hq, hs, hd⟩ => ⟨p, q, xs, ys, e, ⟨hx, hy⟩, ?_⟩
  exact for_zipM (K := X.K) (a := p) (b := q) (xs := xs) (ys := ys) (D := ⟨nx, D.rt, D.bk, D.ct⟩) (g := XG X (.Tuple elts kk tpos)) (tb := fun D σ H => XB X body D.nx ⟨D.rt, D.bk, D.ct⟩ σ H) hl Pv h0 hq
    (fun i x y T σ H hx hy hp hT => hs i x y T σ H _ hx hy hp (Kp.new hT) (.inl (.inl upd_same))) hd
/-- while: a word by a measure -/
theorem xs_while {c : Expr} (C : Ctx X sc N Vs Ls G k) (Pv : Nat → St → Hp → Prop) (h0 : ∃ m, Pv m σ H) (hs : ∀ m σ' H', Pv m σ' H' → XT X c σ' H' fun b H1 => if b = true then XB X body (fun σ2 H2 => ∃ m', m' < m ∧ Pv m' σ2 H2) ⟨D.rt, nx, fun σ2 H2 => ∃ m', m' < m ∧ Pv m' σ2 H2⟩ σ' H1 else nx σ' H1) :
    XS X (.While c body [] pos) nx D σ H := by
  refine ⟨_, ps_while C.po XT.pt XB.ps, Pv, h0, fun m σ' H' p => XT.mono (hs m σ' H' p) fun b H1 q => ?_⟩
  cases b with
  | true => exact ⟨_, fun _ _ z => z, q⟩
  | false => exact q
/-- a, b = a pair -/
theorem xs_asg {tg : Expr} (h : XE X e σ H fun v H1 => XG X tg v σ H1 nx) (hs : swapsWithSole [tg] e pos.line X.env = pure false := by rfl) (hw : swappedStores [tg] e X.env = pure none := by rfl) (h1 : (assignEach [tg] X.env).map (·.2) = [assign tg X.env] := by rfl) : XS X (.Assign [tg] e pos) nx D σ H :=
  ⟨_, ps_asg XE.pe XG.pg hs hw h1, h⟩
theorem xgs_nil {Q : St → Hp → Prop} (h : Q σ H) : XGs X [] [] σ H Q := ⟨_, pgs_nil, rfl, h⟩
theorem xgs_cons {v : V} {vs : List V} {Q : St → Hp → Prop} (h : XG X e v σ H fun σ' H' => XGs X es vs σ' H' Q) (hs : (assignEach (e :: es) X.env).map (·.2) = assign e X.env :: (assignEach es X.env).map (·.2) := by rfl) : XGs X (e :: es) (v :: vs) σ H Q :=
  ⟨_, pgs_cons XG.pg XGs.pgs hs, v, vs, rfl, h⟩
theorem sw_par {env : Env} {x y : Str} {a b : Expr} {px py pt pt2 : Pos} {kt k2 : Nat} (hb : env.blockKind = .function) (hx : env.kindOf x = some .local) (hy : env.kindOf y = some .local) (hxy : ([x, y].eraseDups.length != [x, y].length) = false) (hl : (py.line == px.line) = true)
    (ha : ∀ z p, a ≠ .Starred z p) (hb' : ∀ z p, b ≠ .Starred z p) (hf : [a, b].all (foldedForSure 8) = false) (hc : [a, b].all (constantsAlone 8) = false) : swappedStores [.Tuple [.Name x px, .Name y py] kt pt] (.Tuple [a, b] k2 pt2) env = pure (some [x, y]) := by
  have e1 : (some NameKind.local == some NameKind.local) = true := by decide
  have e2 : (ScopeKind.function != ScopeKind.function) = false := by decide
  unfold swappedStores
  simp only [hb, hf, hc, e2, List.filterMap_cons, List.filterMap_nil, List.head?_cons, Option.map_some, Option.getD_some, Expr.pos, hx, hy, hl, e1, beq_self_eq_true, Bool.and_self, if_true, hxy]
  rw [if_neg (by simp)]
  split
  · rename_i h
    exfalso
    simp only [List.any_cons, List.any_nil, Bool.or_false, Bool.or_eq_true] at h
    cases h
  · rw [if_neg (by simp), if_neg Bool.false_ne_true, if_neg Bool.false_ne_true]
/-- a, b = x, y: plain locals -/
theorem xs_par {x y : Str} {px py pt pt2 : Pos} {kt k2 : Nat} (C : Ctx X sc N Vs Ls G k) (hx : Mem N x) (hy : Mem N y) (hxl : sc.names.lookup x = some .local) (hyl : sc.names.lookup y = some .local) (hxy : ([x, y].eraseDups.length != [x, y].length) = false)
    (h : XE X a σ H fun v H1 => XE X b σ H1 fun u H2 => ∃ σ1 σ2, Put N σ x v σ1 ∧ Put N σ1 y u σ2 ∧ nx σ2 H2) (hl : (py.line == px.line) = true := by rfl) (ha : ∀ z p, a ≠ .Starred z p := by intro _ _ h; cases h) (hb' : ∀ z p, b ≠ .Starred z p := by intro _ _ h; cases h) (hf : [a, b].all (foldedForSure 8) = false := by rfl) (hc : [a, b].all (constantsAlone 8) = false := by rfl)
    (hst : starEach (a :: b :: []) X.env = (false, eval a X.env) :: starEach (b :: []) X.env := by rfl) (hst2 : starEach (b :: []) X.env = (false, eval b X.env) :: starEach [] X.env := by rfl)
    (hs : swapsWithSole [.Tuple [.Name x px, .Name y py] kt pt] (.Tuple [a, b] k2 pt2) pos.line X.env = pure false := by rfl) : XS X (.Assign [.Tuple [.Name x px, .Name y py] kt pt] (.Tuple [a, b] k2 pt2) pos) nx D σ H := by
  obtain ⟨i, hi⟩ := List.getElem?_of_mem hx.mem
  obtain ⟨j, hj⟩ := List.getElem?_of_mem hy.mem
  have hij : i ≠ j := fun e => by
    subst e
    rw [hi] at hj
    cases Option.some.inj hj
    exact absurd hxy (by simp [List.eraseDups_cons])
  have hxl' : X.env.scope.names.lookup x = some .local := by rw [C.esc]; exact hxl
  have hyl' : X.env.scope.names.lookup y = some .local := by rw [C.esc]; exact hyl
  have hb : X.env.blockKind = .function := by unfold Env.blockKind; rw [C.esc, C.knd]; rfl
  refine ⟨_, ps_par (i := i) (j := j) C.calm (by rw [C.hN]; exact C.nd) (by rw [C.hN]; exact hi) (by rw [C.hN]; exact hj) hij hxl' hyl' XA.pa (sw_par hb hxl' hyl' hxy hl ha hb' hf hc) hs, ?_⟩
  refine xa_cons (hs := hst) (XE.mono h fun v H1 h => xa_cons (hs := hst2) (XE.mono h fun u H2 ⟨σ1, σ2, p1, p2, q⟩ => xa_nil ?_))
  refine ⟨v, u, rfl, ?_⟩
  obtain ⟨i', hi', e1⟩ := p1.ix
  obtain ⟨j', hj', e2⟩ := p2.ix
  have ei : i = i' := nd_ix C.nd hi hi'
  have ej : j = j' := nd_ix C.nd hj hj'
  subst ei; subst ej
  show nx ((σ.set i (some v)).set j (some u)) H2
  rw [e1, e2]; exact q
/-- xs[::-1] -/
theorem xe_revL {j : Nat} {p4 : Pos} (h : XE X a σ H fun v H1 => ∃ p xs, v = .ref p ∧ SqL X.K H1 p xs ∧ ∀ r H', Kp [] H1 H' → H1 r = none → H' r = some (.lst xs.reverse) → Q (.ref r) H') : XE X (.Subscript a (.Slice none none (some (.UnaryOp .USub (.Constant (.int 1) j p1) p2)) p3) p4) σ H Q :=
  ⟨_, pe_revL XE.pe, h.mono fun v H1 ⟨p, xs, e, hx, q⟩ => ⟨p, xs, e, hx, new_ q⟩⟩
theorem XS.imp {nx' : St → Hp → Prop} (h : XS X s nx D σ H) (m : ∀ σ H, nx σ H → nx' σ H) : XS X s nx' D σ H := by
  obtain ⟨t, ht, q⟩ := h
  refine ⟨fun D σ H => ∃ nx0, t ⟨nx0, D.rt, D.bk, D.ct⟩ σ H ∧ ∀ σ H, nx0 σ H → D.nx σ H, ⟨fun pins s σ H D I ⟨nx0, q, m⟩ => thn (ht.run pins s σ H _ I q) fun f s1 z => ?_⟩, nx, q, m⟩
  cases f with
  | next => obtain ⟨σ', H', I', z⟩ := z; exact ⟨σ', H', I', m _ _ z⟩
  | brk => exact z
  | cont => exact z
  | ret u => exact z

/-! ## comprehensions -/
def XLC (X : Cx) (elt tg iter : Expr) (ifs : List Expr) (scope : Scope) (σ : St) (H : Hp) (Q : VK) : Prop := ∃ (wi : TI) (g : TG) (tt : TT) (te : TE) (own : List (Str × Nat)), PI X tg iter wi ∧ BlkOk X.N X.env.scope scope own ∧
  (∀ (s : Shared) (H : Hp) (c : Addr) (cl : List (Str × Addr)) (fp : List Addr), PG (X.blk s H scope (compEnvC scope cl c X.env) fp) tg g) ∧ (∀ (s : Shared) (H : Hp) (c : Addr) (cl : List (Str × Addr)) (fp : List Addr), PTs (X.blk s H scope (compEnvC scope cl c X.env) fp) ifs tt) ∧
  (∀ (s : Shared) (H : Hp) (c : Addr) (cl : List (Str × Addr)) (fp : List Addr), PE (X.blk s H scope (compEnvC scope cl c X.env) fp) elt te) ∧ (∀ σ H R R', (∀ J H, R J H → R' J H) → wi σ H R → wi σ H R') ∧ tLc wi g tt te (own.map (·.2)) σ H Q
variable {elt : Expr} {ifs : List Expr} {scope : Scope}
theorem tLc_mono {wi : TI} {g : TG} {tt : TT} {te : TE} {vs : List Nat} {Q Q' : VK} (hw : ∀ σ H R R', (∀ J H, R J H → R' J H) → wi σ H R → wi σ H R') (h : tLc wi g tt te vs σ H Q) (m : ∀ v H, Q v H → Q' v H) : tLc wi g tt te vs σ H Q' := by
  refine hw _ _ _ _ (fun J H1 h D hD => ?_) h
  obtain ⟨W, h0, h⟩ := h D hD
  refine ⟨W, h0, fun i n H w => ?_⟩
  rcases h i n H w with ⟨a, b⟩ | b
  · exact .inl ⟨a, m _ _ b⟩
  · exact .inr b
theorem xe_lc (C : Ctx X sc N Vs Ls G k) (h : XLC X elt tg iter ifs scope σ H Q) (hs : ∀ x, foldedSetIterable iter X.env x = pure x := by intro _; rfl) : XE X (.ListComp elt [⟨tg, iter, ifs, 0⟩] scope pos) σ H Q := by
  obtain ⟨wi, g, tt, te, own, h1, h2, h3, h4, h5, h6, q⟩ := h
  exact ⟨_, pe_lc C.calm (by rw [C.hN]; exact C.nd) h1 h2 h3 h4 h5 hs, q⟩
/-- y = [..], y a plain local -/
theorem xs_setLc {y : Str} (C : Ctx X sc N Vs Ls G k) (hm : Mem N y) (hyl : sc.names.lookup y = some .local) (hl : (p1.line == pos.line) = true) (ha : (scope.names.any fun (n, k) => n == y && (k == .local || k == .cell)) = false)
    (h : XLC X elt tg iter ifs scope σ H fun v H1 => ∃ σ', Put N σ y v σ' ∧ nx σ' H1) (hs : ∀ x, foldedSetIterable iter X.env x = pure x := by intro _; rfl) : XS X (.Assign [.Name y p1] (.ListComp elt [⟨tg, iter, ifs, 0⟩] scope pos) p2) nx D σ H := by
  obtain ⟨wi, g, tt, te, own, h1, h2, h3, h4, h5, h6, q⟩ := h
  obtain ⟨i, hi⟩ := List.getElem?_of_mem hm.mem
  have hyl' : X.env.scope.names.lookup y = some .local := by rw [C.esc]; exact hyl
  refine XS.imp (nx := fun σ1 H1 => ∃ v, σ1 = σ.set i (some v) ∧ ∃ σ', Put N σ y v σ' ∧ nx σ' H1) ⟨_, ps_setLc (i := i) C.calm (by rw [C.hN]; exact C.nd) (by rw [C.hN]; exact hi) hyl' (sw_true (by rw [C.esc]; exact C.knd) hyl' hl ha) h1 h2 h3 h4 h5 hs, ?_⟩ ?_
  · exact tLc_mono h6 q fun v H1 z => ⟨v, rfl, z⟩
  · rintro σ1 H1 ⟨v, rfl, σ', hp, q⟩
    obtain ⟨j, hj, e⟩ := hp.ix
    have ij : i = j := nd_ix C.nd hi hj
    subst ij
    rw [e]; exact q
/-- y = [..], y a name that a comprehension reads (a cell) -/
theorem blk_ctx {Vs' G' : List Str} {s : Shared} {H : Hp} {c : Addr} {cl : List (Str × Addr)} {fp : List Addr} (C : Ctx X sc N Vs Ls G k) (h : okC (relS scope sc) Vs' [] G' = true) (hk : scope.kind = .function) :
    Ctx (X.blk s H scope (compEnvC scope cl c X.env) fp) (relS scope sc) N Vs' [] G' k :=
  ⟨C.hN, C.nd, by rw [← C.esc]; rfl, h, C.calm, fun _ m => (nomatch m), PassesOwn.never, hk, C.room⟩

/-- what one turn of a comprehension asks: the target's slot, the test (one or none), the element -/
def XEC (X : Cx) (sc scope : Scope) (N Vs' G' : List Str) (k : Nat) (elt : Expr) : TE := fun σ H Q => ∀ (s0 : Shared) (H0 : Hp) (c : Addr) (cl : List (Str × Addr)) (fp : List Addr), Ctx (X.blk s0 H0 scope (compEnvC scope cl c X.env) fp) (relS scope sc) N Vs' [] G' k → XE (X.blk s0 H0 scope (compEnvC scope cl c X.env) fp) elt σ H Q
def XTC (X : Cx) (sc scope : Scope) (N Vs' G' : List Str) (k : Nat) (elt : Expr) : TT := fun σ H Q => ∀ (s0 : Shared) (H0 : Hp) (c : Addr) (cl : List (Str × Addr)) (fp : List Addr), Ctx (X.blk s0 H0 scope (compEnvC scope cl c X.env) fp) (relS scope sc) N Vs' [] G' k → XT (X.blk s0 H0 scope (compEnvC scope cl c X.env) fp) elt σ H Q
def XTurn (X : Cx) (sc scope : Scope) (N Vs' G' : List Str) (k : Nat) (nm : Str) (ifs : List Expr) (elt : Expr) (σ : St) (y : V) (H : Hp) (L : Addr) (Nx : Hp → Prop) : Prop :=
  ∃ σ', Put N σ nm y σ' ∧ 
    match ifs with
    | [] => XEC X sc scope N Vs' G' k elt σ' H fun z H4 => ∃ acc, H4 L = some (.lst acc) ∧ acc.length < sizeLine ∧ ∀ H5, Kp [L] H4 H5 → H5 L = some (.lst (acc ++ [z])) → Nx H5
    | c' :: _ => XTC X sc scope N Vs' G' k c' σ' H fun b H3 => if b = true then XEC X sc scope N Vs' G' k elt σ' H3 (fun z H4 => ∃ acc, H4 L = some (.lst acc) ∧ acc.length < sizeLine ∧ ∀ H5, Kp [L] H4 H5 → H5 L = some (.lst (acc ++ [z])) → Nx H5) else Nx H3
def teC (X : Cx) (scope : Scope) (elt : Expr) : TE := fun σ H Q => ∀ (s0 : Shared) (H0 : Hp) (c : Addr) (cl : List (Str × Addr)) (fp : List Addr), XE (X.blk s0 H0 scope (compEnvC scope cl c X.env) fp) elt σ H Q
def ttC (X : Cx) (scope : Scope) (ifs : List Expr) : TT := fun σ H Q => match ifs with
  | [] => Q true H
  | c' :: _ => ∀ (s0 : Shared) (H0 : Hp) (c : Addr) (cl : List (Str × Addr)) (fp : List Addr), XT (X.blk s0 H0 scope (compEnvC scope cl c X.env) fp) c' σ H Q
theorem put_wipe {nm : Str} {y : V} {i : Nat} (hN : N[i]? = some nm) (nd : N.Nodup) (hp : Put N σ nm y σ') : (wipe σ [i]).set i (some y) = σ' ∧ wipe σ' [i] = wipe σ [i] := by
  obtain ⟨j, hj, e⟩ := hp.ix
  have ij : i = j := nd_ix nd hN hj
  subst ij
  subst e
  exact ⟨by show (σ.set i none).set i (some y) = _; rw [List.set_set], by show (σ.set i (some y)).set i none = σ.set i none; rw [List.set_set]⟩
section
variable {nm : Str} {i : Nat} {Vs' G' : List Str}
theorem turn_ok (C : Ctx X sc N Vs Ls G k) (hN : N[i]? = some nm) (hV : okC (relS scope sc) Vs' [] G' = true) (hk : scope.kind = .function) (hif : ifs.length ≤ 1) {y : V} {L : Addr} {Nx : Hp → Prop} (h : XTurn X sc scope N Vs' G' k nm ifs elt σ y H L Nx) :
    gName i y (wipe σ [i]) H fun σ2 H2 => wipe σ2 [i] = wipe σ [i] ∧ ttC X scope ifs σ2 H2 fun b H3 => if b = true then teC X scope elt σ2 H3 (fun y H4 => ∃ acc, H4 L = some (.lst acc) ∧ acc.length < sizeLine ∧ Nx (upd H4 L (.lst (acc ++ [y])))) else Nx H3 := by
  obtain ⟨σ', hp, h⟩ := h
  obtain ⟨e1, e2⟩ := put_wipe hN C.nd hp
  show wipe ((wipe σ [i]).set i (some y)) [i] = wipe σ [i] ∧ ttC X scope ifs ((wipe σ [i]).set i (some y)) H _
  rw [e1]
  refine ⟨e2, ?_⟩
  have fin : ∀ H3, XEC X sc scope N Vs' G' k elt σ' H3 (fun z H4 => ∃ acc, H4 L = some (.lst acc) ∧ acc.length < sizeLine ∧ ∀ H5, Kp [L] H4 H5 → H5 L = some (.lst (acc ++ [z])) → Nx H5) →
      teC X scope elt σ' H3 (fun y H4 => ∃ acc, H4 L = some (.lst acc) ∧ acc.length < sizeLine ∧ Nx (upd H4 L (.lst (acc ++ [y])))) := fun H3 h s0 H0 c cl fp =>
    (h s0 H0 c cl fp (blk_ctx C hV hk)).mono fun v H4 ⟨acc, h1, h2, h3⟩ => ⟨acc, h1, h2, h3 _ (Kp.set h1 rfl) upd_same⟩
  cases ifs with
  | nil =>
    exact iteT (B := Nx H) (fin H h)
  | cons c' r =>
    intro s0 H0 c cl fp
    refine (h s0 H0 c cl fp (blk_ctx C hV hk)).mono fun b H3 q => ?_
    cases b with
    | false => exact q
    | true => exact fin H3 q
theorem pg_blk (C : Ctx X sc N Vs Ls G k) (hN : N[i]? = some nm) (hl : (relS scope sc).names.lookup nm = some .local) {s0 : Shared} {H0 : Hp} {c : Addr} {cl : List (Str × Addr)} {fp : List Addr} : PG (X.blk s0 H0 scope (compEnvC scope cl c X.env) fp) (.Name nm p1) (gName i) := by
  have e : (compEnvC scope cl c X.env).scope = relS scope sc := by rw [← C.esc]; rfl
  refine pg_name (X := X.blk s0 H0 scope (compEnvC scope cl c X.env) fp) (i := i) (by show X.N.Nodup; rw [C.hN]; exact C.nd) (by show X.N[i]? = _; rw [C.hN]; exact hN) (.inl ?_) (.inr ?_)
  · show (compEnvC scope cl c X.env).scope.names.lookup nm = _
    rw [e]; exact hl
  · show (compEnvC scope cl c X.env).scope.names.lookup nm = _
    rw [e]; exact hl
theorem pts_blk (hif : ifs.length ≤ 1) {s0 : Shared} {H0 : Hp} {c : Addr} {cl : List (Str × Addr)} {fp : List Addr} : PTs (X.blk s0 H0 scope (compEnvC scope cl c X.env) fp) ifs (ttC X scope ifs) := by
  cases ifs with
  | nil => exact pts_nil
  | cons c' r =>
    cases r with
    | nil => exact pts_one ⟨fun pins s σ H Q I h => (XT.pt).run pins s σ H Q I (h s0 H0 c cl fp)⟩
    | cons _ _ => simp at hif
theorem pe_blk {s0 : Shared} {H0 : Hp} {c : Addr} {cl : List (Str × Addr)} {fp : List Addr} : PE (X.blk s0 H0 scope (compEnvC scope cl c X.env) fp) elt (teC X scope elt) := ⟨fun pins s σ H Q I h => (XE.pe).run pins s σ H Q I (h s0 H0 c cl fp)⟩
/-- the closed facts of a comprehension: its target's name and slot, what it reads -/
structure LcOk (sc scope : Scope) (N Vs' G' : List Str) (nm : Str) (i : Nat) (ifs : List Expr) : Prop where
  hN : N[i]? = some nm
  blk : blkC N sc scope [(nm, i)] = true
  rd : okC (relS scope sc) Vs' [] G' = true
  knd : scope.kind = .function
  own : (relS scope sc).names.lookup nm = some .local
  one : ifs.length ≤ 1
theorem xlc_R1 (C : Ctx X sc N Vs Ls G k) (O : LcOk sc scope N Vs' G' nm i ifs) (hg : Mem G "range") (hm : X.mg "range" = none)
    (h : XA X [a] σ H fun vs H1 => ∃ j : Int, vs = [.int j] ∧ -(2 ^ 62) ≤ j ∧ j < 2 ^ 62 ∧ ∀ L H2, Kp [] H1 H2 → H1 L = none → H2 L = some (.lst []) → ∃ Pv : Nat → Hp → Prop, Pv 0 H2 ∧
      (∀ t H', t < j.toNat → Pv t H' → XTurn X sc scope N Vs' G' k nm ifs elt σ (.int t) H' L (Pv (t + 1))) ∧ ∀ H', Pv j.toNat H' → Q (.ref L) H')
    (hst : starEach [a] X.env = [(false, eval a X.env)] := by rfl) : XLC X elt (.Name nm p1) (.Call (.Name "range" p2) [a] [] pos) ifs scope σ H Q := by
  refine ⟨_, gName i, ttC X scope ifs, teC X scope elt, [(nm, i)], pi_range1 (C.gl hg) hm XA.pa hst, blkOk_by (by rw [C.hN, C.esc]; exact O.blk), fun _ _ _ _ _ => pg_blk C O.hN O.own, fun _ _ _ _ _ => pts_blk O.one, fun _ _ _ _ _ => pe_blk,
    fun σ H R R' m h => h.mono fun vs H1 ⟨j, e, h1, h2, q⟩ => ⟨j, e, h1, h2, m _ _ q⟩, ?_⟩
  refine h.mono fun vs H1 ⟨j, e, h1, h2, h⟩ => ⟨j, e, h1, h2, fun L hL => ?_⟩
  obtain ⟨Pv, h0, hs, hd⟩ := h L _ (Kp.new hL) hL upd_same
  refine lc_range (lo := 0) (n := j.toNat) Pv h0 (fun t H' ht p => ?_) hd
  rw [Int.zero_add]
  exact turn_ok C O.hN O.rd O.knd O.one (hs t H' ht p)
theorem xlc_L (C : Ctx X sc N Vs Ls G k) (O : LcOk sc scope N Vs' G' nm i ifs)
    (h : XE X iter σ H fun v H1 => ∃ a xs, v = .ref a ∧ SqL X.K H1 a xs ∧ ∀ L H2, Kp [] H1 H2 → H1 L = none → H2 L = some (.lst []) → ∃ Pv : Nat → Hp → Prop, Pv 0 H2 ∧ (∀ t H', t ≤ xs.length → Pv t H' → SqL X.K H' a xs) ∧
      (∀ t y H', xs[t]? = some y → Pv t H' → XTurn X sc scope N Vs' G' k nm ifs elt σ y H' L (Pv (t + 1))) ∧ ∀ H', Pv xs.length H' → Q (.ref L) H') : XLC X elt (.Name nm p1) iter ifs scope σ H Q := by
  refine ⟨_, gName i, ttC X scope ifs, teC X scope elt, [(nm, i)], pi_list XE.pe, blkOk_by (by rw [C.hN, C.esc]; exact O.blk), fun _ _ _ _ _ => pg_blk C O.hN O.own, fun _ _ _ _ _ => pts_blk O.one, fun _ _ _ _ _ => pe_blk,
    fun σ H R R' m h => h.mono fun v H1 ⟨a, e, h1, q⟩ => ⟨a, e, h1, m _ _ q⟩, ?_⟩
  refine h.mono fun v H1 ⟨a, xs, e, hx, h⟩ => ⟨a, e, ⟨xs, hx⟩, fun L hL => ?_⟩
  obtain ⟨Pv, h0, hl, hs, hd⟩ := h L _ (Kp.new hL) hL upd_same
  exact lc_list (K := X.K) (a := a) (xs := xs) Pv h0 hl (fun t y H' ht p => turn_ok C O.hN O.rd O.knd O.one (hs t y H' ht p)) hd
end

/-! ## a def and its body -/
def st0 : List Str → List V → St
  | [], _ => []
  | _ :: N, v :: vs => some v :: st0 N vs
  | _ :: N, [] => none :: st0 N []
theorem st0_nil : ∀ N : List Str, st0 N [] = List.replicate N.length none
  | [] => rfl
  | _ :: N => by show none :: st0 N [] = _; rw [st0_nil N]; rfl
theorem start_eq : ∀ (N : List Str) (vs : List V), vs.length ≤ N.length → start N vs = st0 N vs
  | [], [], _ => rfl
  | [], _ :: _, h => by simp at h
  | x :: N, [], _ => by rw [st0_nil]; rfl
  | x :: N, v :: vs, h => by
    show some v :: (vs.map some ++ List.replicate (N.length + 1 - (vs.length + 1)) none) = some v :: st0 N vs
    rw [← start_eq N vs (by simpa using h), Nat.add_sub_add_right]; rfl
/-- where a def stands -/
structure DefAt (K : PySem.W.Frag) (mg : Str → Option Value) (x qual : Str) (st : Stmt) (ps : List Str) : Prop where
  ex : ∃ f fd, Fun K x qual st f fd ∧ mg x = some (.ref f) ∧ Binds K fd ps []
end
section
variable {P : Program} {w : World} {K : PySem.W.Frag} {mg : Str → Option Value} {base : Heap}
theorem fnOk_by {x qual : Str} {st : Stmt} {f : Addr} {fd : FuncData} {N Vs ps G : List Str} {k : Nat} {sp : Sp} (F : Fun K x qual st f fd) (S : FnScope N ps (defScope st)) (ok : okC (defScope st) Vs Vs G = true) (len : ∀ vs H Q E, sp vs H Q E → vs.length = ps.length)
    (hbody : ∀ X : Cx, X.prog = P → X.w = w → X.K = K → X.mg = mg → X.base = base → Ctx X (defScope st) N Vs Vs G k → ∀ (H : Hp) (vs : List V) (Q : VK) (E : XK), sp vs H Q E → XB X (defBody st) (fun _ H' => Q .non H') ⟨Q, fun _ _ => False, fun _ _ => False⟩ (st0 N vs) H) :
    FnOk P w K mg base CX0 (k + 1) f fd ps sp := by
  refine F.ok S len (fun cdv A outer s H vs Q E hr h => ?_)
  have hl : vs.length ≤ N.length := by
    rw [len vs H Q E h]
    have := S.pre
    rw [← this, List.length_take]; exact Nat.min_le_right _ _
  rw [start_eq N vs hl]
  obtain ⟨t, h1, q⟩ := hbody ((cxOf CX0 P w K mg base N qual (defScope st) f cdv A outer s H E).nox) rfl rfl rfl rfl rfl ⟨rfl, S.nd, rfl, ok, rfl, fun _ _ => rfl, PassesOwn.never, S.kind, hr⟩ H vs Q E h
  exact ⟨t, h1, q⟩
theorem DefOk.by {x qual : Str} {st : Stmt} {N Vs ps G : List Str} {k : Nat} {sp : Sp} (F : DefAt K mg x qual st ps) (S : FnScope N ps (defScope st)) (ok : okC (defScope st) Vs Vs G = true) (len : ∀ vs H Q E, sp vs H Q E → vs.length = ps.length)
    (hbody : ∀ X : Cx, X.prog = P → X.w = w → X.K = K → X.mg = mg → X.base = base → Ctx X (defScope st) N Vs Vs G k → ∀ (H : Hp) (vs : List V) (Q : VK) (E : XK), sp vs H Q E → XB X (defBody st) (fun _ H' => Q .non H') ⟨Q, fun _ _ => False, fun _ _ => False⟩ (st0 N vs) H) :
    DefOk P w K mg base x ps (k + 1) sp := by
  obtain ⟨f, fd, F, hm, hb⟩ := F.ex
  exact ⟨f, fd, fnOk_by F S ok len hbody, hm, F.kp, hb⟩
/-- a class of the module that is made by its __init__ -/
structure ClsOk (P : Program) (w : World) (K : PySem.W.Frag) (mg : Str → Option Value) (base : Heap) (x : Str) (C : Addr) (ps : List Str) (k : Nat) (sp : Sp) : Prop where
  ex : ∃ f fd, FnOk P w K mg base CX0 k f fd ps sp ∧ mg x = some (.ref C) ∧ Mk K C f ∧ Binds K fd ps []
theorem xe_make {X : Cx} {sc : Scope} {N Vs Ls G : List Str} {k k' : Nat} {x : Str} {C : Addr} {ps : List Str} {sp : Sp} {a : Expr} {es : List Expr} {p1 pos : Pos} {σ : St} {H : Hp} {Q : VK} (Cc : Ctx X sc N Vs Ls G k) (F : ClsOk X.prog X.w X.K X.mg X.base x C ps k' sp) (hg : Mem G x) (hk : k' + 1 ≤ k)
    (h : XA X (a :: es) σ H fun vs H1 => ∀ z dx, H1 z = none → H1 dx = none → dx ≠ z → sp (.ref z :: vs) (upd (upd H1 dx (.own z)) z (.ins C dx [])) (fun v H2 => v = .non ∧ Q (.ref z) H2) E0)
    (hdb : (x == ("__debug__" : Str)) = false := by decide) (he : starEach (a :: es) X.env = (false, eval a X.env) :: starEach es X.env := by rfl) (hpl : (backTo pos (starEach es X.env)).any (·.1) = false := by rfl) : XE X (.Call (.Name x p1) (a :: es) [] pos) σ H Q := by
  obtain ⟨f, fd, F, hm, M, b⟩ := F.ex
  refine ⟨_, pe_make M F (Cc.room.mono hk) (Cc.gl hg) hm b .nil pass0 XA.pa hdb he hpl, ?_⟩
  refine XA.mono h fun vs H1 q z dx h1 h2 h3 => ?_
  rw [List.append_nil]; exact q z dx h1 h2 h3
/-- an instance: its own dict besides -/
theorem Kp.made {H : Hp} {z dx C : Addr} (h1 : H z = none) (h2 : H dx = none) (h3 : dx ≠ z) : Kp [] H (upd (upd H dx (.own z)) z (.ins C dx [])) :=
  (Kp.new h2).tr0 (Kp.new (by rw [upd_ne (Ne.symm h3)]; exact h1))
/-- o.f = v -/
theorem xs_fld {X : Cx} {o value : Expr} {f : Str} {p1 pos : Pos} {σ : St} {H : Hp} {nx : St → Hp → Prop} {D : B3} (h : XE X value σ H fun y H1 => XE X o σ H1 fun z H2 => ∃ a C dx fs, z = .ref a ∧ H2 a = some (.ins C dx fs) ∧ Cls X.K C ∧ NoAttr X.K C f ∧ fs.length < 1000 ∧ ∀ H', Kp [a] H2 H' → H' a = some (.ins C dx (putF f y fs)) → nx σ H')
    (hs : swapsWith value (some (.Attribute o f p1)) pos.line X.env = pure false := by rfl) : XS X (.Assign [.Attribute o f p1] value pos) nx D σ H := by
  refine ⟨_, ps_fld XE.pe XE.pe hs, ?_⟩
  refine XE.mono h fun y H1 h => XE.mono h fun z H2 ⟨a, C, dx, fs, e, ha, c, n, l, q⟩ => ⟨a, C, dx, fs, e, ha, c, n, l, ?_⟩
  exact q _ (Kp.set ha rfl) upd_same

end

/-! ## data of any depth -/
theorem canLay_ints : ∀ ns : List Int, PyData.canLayAll0 (ns.map PyData.int) = true
  | [] => by simp [PyData.canLayAll0]
  | n :: ns => by simp [PyData.canLayAll0, PyData.canLay0, canLay_ints ns]
theorem depth_ints : ∀ ns : List Int, PyData.depthAll (ns.map PyData.int) = 0
  | [] => by simp [PyData.depthAll]
  | n :: ns => by simp [PyData.depthAll, PyData.depth, depth_ints ns]
theorem shT (ns : List Int) : SeqAt.shaped (.tuple (ns.map PyData.int)) = true := by simp [SeqAt.shaped, PyData.canLay0, PyData.depth, canLay_ints, depth_ints]
theorem shL (ns : List Int) : SeqAt.shaped (.list (ns.map PyData.int)) = true := by simp [SeqAt.shaped, PyData.canLay0, PyData.depth, canLay_ints, depth_ints]
theorem dpAll_ints {K : PySem.W.Frag} {H : Hp} : ∀ ns : List Int, DpAll K H (ns.map V.int) (ns.map PyData.int)
  | [] => .nil
  | n :: ns => .cons (.int n) (dpAll_ints ns)
theorem dp_T {K : PySem.W.Frag} {H : Hp} {p : Addr} {ns : List Int} (h : SqT K H p (ns.map V.int)) : Dp K H (.ref p) (.tuple (ns.map PyData.int)) := .tup h (dpAll_ints ns)
theorem dp_L {K : PySem.W.Frag} {H : Hp} {p : Addr} {ns : List Int} (h : SqL K H p (ns.map V.int)) : Dp K H (.ref p) (.list (ns.map PyData.int)) := .lst h (dpAll_ints ns)
mutual
theorem dp_kp {K : PySem.W.Frag} {H H' : Hp} (k : Kp [] H H') : ∀ {d : PyData} {v : V}, Dp K H v d → Dp K H' v d
  | _, _, .non => .non
  | _, _, .bl b => .bl b
  | _, _, .int i => .int i
  | _, _, .str x => .str x
  | _, _, .lst h a => .lst (k.lst0 h) (dpAll_kp k a)
  | _, _, .tup h a => .tup (k.tup h) (dpAll_kp k a)
theorem dpAll_kp {K : PySem.W.Frag} {H H' : Hp} (k : Kp [] H H') : ∀ {ds : List PyData} {vs : List V}, DpAll K H vs ds → DpAll K H' vs ds
  | _, _, .nil => .nil
  | _, _, .cons h a => .cons (dp_kp k h) (dpAll_kp k a)
end
theorem eqv_T (ns ms : List Int) : PyData.eqv (.tuple (ns.map PyData.int)) (.tuple (ms.map PyData.int)) = decide (ns = ms) := by rw [PyData.eqv, PySem.W.ked_eqvAll]
theorem eqv_L (ns ms : List Int) : PyData.eqv (.list (ns.map PyData.int)) (.list (ms.map PyData.int)) = decide (ns = ms) := by rw [PyData.eqv, PySem.W.ked_eqvAll]
section
variable {X : Cx} {σ : St} {H : Hp} {Q : VK} {N Vs Ls G : List Str} {k : Nat} {sc : Scope} {v u : V} {d e : PyData} {p q : Addr} {ns ms : List Int}
theorem vo_eqD (C : Ctx X sc N Vs Ls G k) (hd : Dp X.K H v d) (he : Dp X.K H u e) (sd : SeqAt.shaped d = true) (se : SeqAt.shaped e = true) (h : Q (.bl (PyData.eqv d e)) H) : VO X (compareOp .Eq) v u H Q := ⟨_, op_eqD C.room.units, d, e, hd, he, sd, se, h⟩
theorem vo_neD (C : Ctx X sc N Vs Ls G k) (hd : Dp X.K H v d) (he : Dp X.K H u e) (sd : SeqAt.shaped d = true) (se : SeqAt.shaped e = true) (h : Q (.bl (!PyData.eqv d e)) H) : VO X (compareOp .NotEq) v u H Q := ⟨_, op_neD C.room.units, d, e, hd, he, sd, se, h⟩
theorem vo_eqSame (C : Ctx X sc N Vs Ls G k) (hd : Dp X.K H v d) (he : Dp X.K H u d) (sd : SeqAt.shaped d = true) (h : Q (.bl true) H) : VO X (compareOp .Eq) v u H Q := vo_eqD C hd he sd sd (by rw [SeqAt.eqv_refl d (SeqAt.canLay_of_shaped sd)]; exact h)
theorem vo_neSame (C : Ctx X sc N Vs Ls G k) (hd : Dp X.K H v d) (he : Dp X.K H u d) (sd : SeqAt.shaped d = true) (h : Q (.bl false) H) : VO X (compareOp .NotEq) v u H Q := vo_neD C hd he sd sd (by rw [SeqAt.eqv_refl d (SeqAt.canLay_of_shaped sd)]; exact h)
theorem vo_eqT (C : Ctx X sc N Vs Ls G k) (hd : SqT X.K H p (ns.map V.int)) (he : SqT X.K H q (ms.map V.int)) (h : Q (.bl (decide (ns = ms))) H) : VO X (compareOp .Eq) (.ref p) (.ref q) H Q := vo_eqD C (dp_T hd) (dp_T he) (shT _) (shT _) (by rw [eqv_T]; exact h)
theorem vo_neT (C : Ctx X sc N Vs Ls G k) (hd : SqT X.K H p (ns.map V.int)) (he : SqT X.K H q (ms.map V.int)) (h : Q (.bl (!decide (ns = ms))) H) : VO X (compareOp .NotEq) (.ref p) (.ref q) H Q := vo_neD C (dp_T hd) (dp_T he) (shT _) (shT _) (by rw [eqv_T]; exact h)
theorem vo_eqI (C : Ctx X sc N Vs Ls G k) (hd : SqL X.K H p (ns.map V.int)) (he : SqL X.K H q (ms.map V.int)) (h : Q (.bl (decide (ns = ms))) H) : VO X (compareOp .Eq) (.ref p) (.ref q) H Q := vo_eqD C (dp_L hd) (dp_L he) (shL _) (shL _) (by rw [eqv_L]; exact h)
theorem vo_neI (C : Ctx X sc N Vs Ls G k) (hd : SqL X.K H p (ns.map V.int)) (he : SqL X.K H q (ms.map V.int)) (h : Q (.bl (!decide (ns = ms))) H) : VO X (compareOp .NotEq) (.ref p) (.ref q) H Q := vo_neD C (dp_L hd) (dp_L he) (shL _) (shL _) (by rw [eqv_L]; exact h)
end

/-- the body of a for, of a while -/
def forBody : Stmt → List Stmt
  | .For _ _ b _ _ => b
  | .While _ b _ _ => b
  | _ => []
/-- what a return returns -/
def retE : Stmt → Expr
  | .Return (some e) _ => e
  | _ => .Constant .none 0 ⟨0, 0, 0, 0⟩
def ifBody : Stmt → List Stmt
  | .If _ b _ _ => b
  | _ => []
def ifElse : Stmt → List Stmt
  | .If _ _ b _ => b
  | _ => []
/-! ## a list or a tuple; types -/
def Sq (K : PySem.W.Frag) (H : Hp) (p : Addr) (xs : List V) : Prop := SqL K H p xs ∨ SqT K H p xs
theorem vc_lenS {X : Cx} {H : Hp} {Q : VK} {p : Addr} {xs : List V} (hx : Sq X.K H p xs) (h : Q (.int xs.length) H) : VC X (.builtin "len") [.ref p] H Q := hx.elim (fun z => vc_lenL z h) fun z => vc_lenT z h
theorem vx_S {X : Cx} {H : Hp} {Q : VK} {p : Addr} {xs : List V} {i : Int} {v : V} (hx : Sq X.K H p xs) (hi : atI xs i = some v) (h : Q v H) : VX X (.ref p) (.int i) H Q := hx.elim (fun z => vx_lst z hi h) fun z => vx_tup z hi h
theorem ty_T {K : PySem.W.Frag} {H : Hp} {p : Addr} {xs : List V} (h : SqT K H p xs) : TyX K H (.ref p) (.type "tuple") := by
  rcases h with (h | ⟨o, h⟩) | ⟨o, its, n, h1, h2, _⟩
  · exact .base (.tup h)
  · exact .fTuple h
  · exact .kTuple h1 h2
theorem ty_L {K : PySem.W.Frag} {H : Hp} {p : Addr} {xs : List V} (h : SqL K H p xs) : TyX K H (.ref p) (.type "list") := by
  rcases h with (h | ⟨o, h⟩) | ⟨o, its, n, h1, h2, _⟩
  · exact .base (.lst h)
  · exact .base (.frz h)
  · exact .kList h1 h2
theorem dpAll_len {K : PySem.W.Frag} {H : Hp} : ∀ {vs : List V} {ds : List PyData}, DpAll K H vs ds → vs.length = ds.length
  | _, _, .nil => rfl
  | _, _, .cons _ a => by rw [List.length_cons, List.length_cons, dpAll_len a]
theorem dpAll_at {K : PySem.W.Frag} {H : Hp} : ∀ {vs : List V} {ds : List PyData} {i : Nat} {d : PyData}, DpAll K H vs ds → ds[i]? = some d → ∃ v, vs[i]? = some v ∧ Dp K H v d
  | _, _, _, _, .nil, e => by simp at e
  | _, _, 0, _, .cons h _, e => ⟨_, rfl, by simp at e; rw [← e]; exact h⟩
  | _, _, i + 1, _, .cons _ a, e => by
    obtain ⟨v, h1, h2⟩ := dpAll_at (i := i) a (by simpa using e)
    exact ⟨v, by simpa using h1, h2⟩
theorem depth_at : ∀ {ds : List PyData} {i : Nat} {d : PyData}, ds[i]? = some d → PyData.depth d ≤ PyData.depthAll ds
  | [], _, _, e => by simp at e
  | x :: xs, 0, d, e => by
    have e' : x = d := by simpa using e
    rw [PyData.depthAll, e']; omega
  | x :: xs, i + 1, d, e => by
    have := depth_at (ds := xs) (i := i) (d := d) (by simpa using e)
    rw [PyData.depthAll]; omega

/-! ## small things of tests -/
theorem ite_d {p A B : Prop} [Decidable p] (h1 : p → A) (h2 : ¬ p → B) : if decide p = true then A else B := by
  by_cases h : p
  · rw [if_pos (decide_eq_true h)]; exact h1 h
  · rw [if_neg (by simp [h])]; exact h2 h
theorem ite_nd {p A B : Prop} [Decidable p] (h1 : ¬ p → A) (h2 : p → B) : if (!decide p) = true then A else B := by
  by_cases h : p
  · rw [if_neg (by simp [h])]; exact h2 h
  · rw [if_pos (by simp [h])]; exact h1 h
theorem ite_b {c : Bool} {A B : Prop} (h1 : c = true → A) (h2 : c = false → B) : if c = true then A else B := by
  cases c with
  | true => exact iteT (h1 rfl)
  | false => exact iteF (h2 rfl)
theorem ite_NT {A B : Prop} (h : B) : if (!true) = true then A else B := h
theorem ite_NF {A B : Prop} (h : A) : if (!false) = true then A else B := h
theorem ex_bl {c : Bool} {R : Bool → Prop} (h : R c) : ∃ k, V.bl c = V.bl k ∧ R k := ⟨c, rfl, h⟩
theorem tr_bl {K : PySem.W.Frag} {c : Bool} {H : Hp} {R : Bool → Prop} (h : R c) : ∃ k, TruV K (.bl c) H k ∧ R k := ⟨c, rfl, h⟩
theorem at0 {α : Type} {a : α} {l : List α} : atI (a :: l) 0 = some a := atI_nat (j := 0) rfl
theorem at1 {α : Type} {a b : α} {l : List α} : atI (a :: b :: l) 1 = some b := atI_nat (j := 1) rfl
theorem at2 {α : Type} {a b c : α} {l : List α} : atI (a :: b :: c :: l) 2 = some c := atI_nat (j := 2) rfl
theorem at3 {α : Type} {a b c d : α} {l : List α} : atI (a :: b :: c :: d :: l) 3 = some d := atI_nat (j := 3) rfl
theorem at4 {α : Type} {a b c d e : α} {l : List α} : atI (a :: b :: c :: d :: e :: l) 4 = some e := atI_nat (j := 4) rfl
theorem at5 {α : Type} {a b c d e f : α} {l : List α} : atI (a :: b :: c :: d :: e :: f :: l) 5 = some f := atI_nat (j := 5) rfl
theorem ix0 {n : Nat} : ixN (n + 1) 0 = some 0 := by
  unfold ixN; rw [if_pos (by decide), if_pos (by omega)]; rfl
theorem ix1 {n : Nat} : ixN (n + 2) 1 = some 1 := by
  unfold ixN; rw [if_pos (by decide), if_pos (by omega)]; rfl
theorem sz_ {n : Nat} (h : n ≤ 100000) : n ≤ sizeLine := Nat.le_trans h (by decide)
theorem szl {n : Nat} (h : n < 100000) : n < sizeLine := Nat.lt_of_lt_of_le h (by decide)
theorem sz_lt_ {n : Nat} (h : n < 100000) : n < sizeLine := szl h
theorem cmulL {i j : Int} (h : -(2 ^ 64) < i ∧ i < 2 ^ 64) : CMul i j := .inl h
theorem cmulR {i j : Int} (h : -(2 ^ 64) < j ∧ j < 2 ^ 64) : CMul i j := .inr h
theorem map_at {ns : List Int} {i : Nat} {y : V} (h : (ns.map V.int)[i]? = some y) : ∃ n, ns[i]? = some n ∧ y = .int n := by
  rw [List.getElem?_map] at h
  cases e : ns[i]? with
  | none => rw [e] at h; cases h
  | some n => rw [e] at h; exact ⟨n, rfl, (Option.some.inj h).symm⟩
theorem at_map {ns : List Int} {i : Int} {n : Int} (h0 : 0 ≤ i) (h : ns[i.toNat]? = some n) : atI (ns.map V.int) i = some (.int n) := by
  have e : i = (i.toNat : Int) := by omega
  rw [e]; exact atI_nat (by rw [List.getElem?_map, h]; rfl)

section
variable {X : Cx} {H : Hp} {Q : VK} {p : Addr} {a b c d e f : V} {l : List V}
theorem vx_t0 (hx : SqT X.K H p (a :: l)) (h : Q a H) : VX X (.ref p) (.int 0) H Q := vx_tup hx at0 h
theorem vx_t1 (hx : SqT X.K H p (a :: b :: l)) (h : Q b H) : VX X (.ref p) (.int 1) H Q := vx_tup hx at1 h
theorem vx_t2 (hx : SqT X.K H p (a :: b :: c :: l)) (h : Q c H) : VX X (.ref p) (.int 2) H Q := vx_tup hx at2 h
theorem vx_t3 (hx : SqT X.K H p (a :: b :: c :: d :: l)) (h : Q d H) : VX X (.ref p) (.int 3) H Q := vx_tup hx at3 h
theorem vx_t4 (hx : SqT X.K H p (a :: b :: c :: d :: e :: l)) (h : Q e H) : VX X (.ref p) (.int 4) H Q := vx_tup hx at4 h
theorem vx_t5 (hx : SqT X.K H p (a :: b :: c :: d :: e :: f :: l)) (h : Q f H) : VX X (.ref p) (.int 5) H Q := vx_tup hx at5 h
theorem vx_l0 (hx : SqL X.K H p (a :: l)) (h : Q a H) : VX X (.ref p) (.int 0) H Q := vx_lst hx at0 h
theorem vx_l1 (hx : SqL X.K H p (a :: b :: l)) (h : Q b H) : VX X (.ref p) (.int 1) H Q := vx_lst hx at1 h
theorem vx_l2 (hx : SqL X.K H p (a :: b :: c :: l)) (h : Q c H) : VX X (.ref p) (.int 2) H Q := vx_lst hx at2 h
theorem vx_l3 (hx : SqL X.K H p (a :: b :: c :: d :: l)) (h : Q d H) : VX X (.ref p) (.int 3) H Q := vx_lst hx at3 h
end
/-! ## facts that a frame of new things carries over -/
theorem Kp.lstN {K : PySem.W.Frag} {A : List Addr} {H H' : Hp} {p : Addr} {xs : List V} (a : Kp A H H') (n : ∀ l ∈ A, H l = none) (h : SqL K H p xs) : SqL K H' p xs := by
  rcases h with (h | ⟨o, h⟩) | h
  · exact .inl (.inl (a.k _ _ (fun m => by rw [n _ m] at h; cases h) h))
  · exact .inl (.inr ⟨o, a.z _ _ _ h⟩)
  · exact .inr h
theorem Kp.atN {A : List Addr} {H H' : Hp} {p : Addr} {o : HO} (a : Kp A H H') (n : ∀ l ∈ A, H l = none) (h : H p = some o) : H' p = some o := a.k _ _ (fun m => by rw [n _ m] at h; cases h) h
mutual
theorem dp_kpN {K : PySem.W.Frag} {A : List Addr} {H H' : Hp} (k : Kp A H H') (n : ∀ l ∈ A, H l = none) : ∀ {d : PyData} {v : V}, Dp K H v d → Dp K H' v d
  | _, _, .non => .non
  | _, _, .bl b => .bl b
  | _, _, .int i => .int i
  | _, _, .str x => .str x
  | _, _, .lst h a => .lst (k.lstN n h) (dpAll_kpN k n a)
  | _, _, .tup h a => .tup (k.tup h) (dpAll_kpN k n a)
theorem dpAll_kpN {K : PySem.W.Frag} {A : List Addr} {H H' : Hp} (k : Kp A H H') (n : ∀ l ∈ A, H l = none) : ∀ {ds : List PyData} {vs : List V}, DpAll K H vs ds → DpAll K H' vs ds
  | _, _, .nil => .nil
  | _, _, .cons h a => .cons (dp_kpN k n h) (dpAll_kpN k n a)
end
class Car (H H' : Hp) (P : Prop) (P' : outParam Prop) : Prop where
  kp : ∀ {A : List Addr}, Kp A H H' → (∀ l ∈ A, H l = none) → P → P'
theorem car {H H' : Hp} {P P' : Prop} [c : Car H H' P P'] (k : Kp [] H H') (h : P) : P' := c.kp k (fun _ m => nomatch m) h
theorem carN {H H' : Hp} {P P' : Prop} {L : Addr} [c : Car H H' P P'] (k : Kp [L] H H') (n : H L = none) (h : P) : P' := c.kp k (fun l m => by rw [List.mem_singleton.mp m]; exact n) h
section
variable {H H' : Hp}
instance {K : PySem.W.Frag} {p : Addr} {xs : List V} : Car H H' (SqT K H p xs) (SqT K H' p xs) := ⟨fun k _ h => k.tup h⟩
instance {K : PySem.W.Frag} {p : Addr} {xs : List V} : Car H H' (SqL K H p xs) (SqL K H' p xs) := ⟨fun k n h => k.lstN n h⟩
instance {p : Addr} {o : HO} : Car H H' (H p = some o) (H' p = some o) := ⟨fun k n h => k.atN n h⟩
instance {K : PySem.W.Frag} {v : V} {d : PyData} : Car H H' (Dp K H v d) (Dp K H' v d) := ⟨fun k n h => dp_kpN k n h⟩
instance {K : PySem.W.Frag} {v : List V} {d : List PyData} : Car H H' (DpAll K H v d) (DpAll K H' v d) := ⟨fun k n h => dpAll_kpN k n h⟩
/-- a frame that is not searched -/
def Fr (A : List Addr) (H H' : Hp) : Prop := Kp A H H'
theorem Fr.k {A : List Addr} {H H' : Hp} (h : Fr A H H') : Kp A H H' := h
instance {A : List Addr} {H0 : Hp} : Car H H' (Fr A H0 H) (Fr A H0 H') := ⟨fun k n h => (h.k.tr k fun l m => .inr (h.k.n _ (n l m)) : Kp A H0 H')⟩
instance {A : List Addr} {H0 : Hp} : Car H H' (Kp A H0 H ∧ True) (Kp A H0 H' ∧ True) := ⟨fun k n h => ⟨h.1.tr k fun l m => .inr (h.1.n _ (n l m)), trivial⟩⟩
end

end Z
/-! ## the walk: "m" a name is there, "a" its value, "u" its store, "kp" what still stands, "s" one step, "w" many -/

set_option hygiene false
local macro_rules | `(tactic| wtm_at "m") => `(tactic| first | with_reducible exact Z.Mem.z | (with_reducible refine Z.Mem.s ?_; wtm_at "m") | fail)
local macro_rules | `(tactic| wtm_at "a") => `(tactic| first | with_reducible exact Z.At.z | ((with_reducible show Z.At (_ :: _) _ _ _); with_reducible exact Z.At.s (by wtm_at "a")) | fail)
local macro_rules | `(tactic| wtm_at "u") => `(tactic| first | with_reducible exact Z.Put.z | ((with_reducible show Z.Put (_ :: _) _ _ _ _); with_reducible exact Z.Put.s (by wtm_at "u")) | fail)
local macro_rules | `(tactic| wtm_at "kq") => `(tactic| first | with_reducible assumption | ((with_reducible show SqT _ _ _ _); with_reducible exact Z.Kp.tup (by assumption) (by wtm_at "kq")) | ((with_reducible show SqL _ _ _ _); with_reducible exact Z.Kp.lst0 (by assumption) (by wtm_at "kq")) | ((with_reducible show SqT _ _ _ _); with_reducible exact Z.Kp.tup (Z.Fr.k hid) (by assumption)) | with_reducible exact Z.SqL.of' W.hw | with_reducible exact Z.SqL.of' W.h1 | with_reducible exact W.hm | ((with_reducible show _ = some _); with_reducible exact Z.Kp.at0 (by assumption) (by wtm_at "kq")) | ((with_reducible show SqL _ _ _ _); with_reducible exact Z.SqL.of' (by wtm_at "kq")) | ((with_reducible show SqT _ _ _ _); with_reducible exact Z.SqT.of' (by wtm_at "kq")) | fail)
local macro_rules | `(tactic| wtm_at "kp") => `(tactic| first | with_reducible assumption | ((with_reducible show SqT _ _ _ _); with_reducible exact Z.Kp.tup (by assumption) (by wtm_at "kp")) | ((with_reducible show SqL _ _ _ _); with_reducible exact Z.Kp.lst0 (by assumption) (by wtm_at "kp")) | ((with_reducible show SqT _ _ _ _); with_reducible exact Z.Kp.tup (Z.Fr.k hid) (by assumption)) | with_reducible exact Z.SqL.of' W.hw | with_reducible exact Z.SqL.of' W.h1 | with_reducible exact W.hm | ((with_reducible show _ = some _); with_reducible exact Z.Kp.at0 (by assumption) (by wtm_at "kp")) | ((with_reducible show SqL _ _ _ _); with_reducible exact Z.SqL.of' (by wtm_at "kp")) | ((with_reducible show SqT _ _ _ _); with_reducible exact Z.SqT.of' (by wtm_at "kp")) | assumption | fail)
/-! a statement or an expression, by its form; a value, by its form; facts that are there -/
local macro_rules | `(tactic| wtm_at "v") => `(tactic| first | ((with_reducible show Z.VX _ (L2.V.ref _) (L2.V.int 0) _ _); with_reducible refine Z.vx_t0 (by wtm_at "kq") ?_) | ((with_reducible show Z.VX _ (L2.V.ref _) (L2.V.int 1) _ _); with_reducible refine Z.vx_t1 (by wtm_at "kq") ?_) | ((with_reducible show Z.VX _ (L2.V.ref _) (L2.V.int 2) _ _); with_reducible refine Z.vx_t2 (by wtm_at "kq") ?_) | ((with_reducible show Z.VX _ (L2.V.ref _) (L2.V.int 3) _ _); with_reducible refine Z.vx_t3 (by wtm_at "kq") ?_) | ((with_reducible show Z.VX _ (L2.V.ref _) (L2.V.int 4) _ _); with_reducible refine Z.vx_t4 (by wtm_at "kq") ?_) | ((with_reducible show Z.VX _ (L2.V.ref _) (L2.V.int 5) _ _); with_reducible refine Z.vx_t5 (by wtm_at "kq") ?_) | ((with_reducible show Z.VX _ (L2.V.ref _) (L2.V.int 0) _ _); with_reducible refine Z.vx_l0 (by wtm_at "kq") ?_) | ((with_reducible show Z.VX _ (L2.V.ref _) (L2.V.int 1) _ _); with_reducible refine Z.vx_l1 (by wtm_at "kq") ?_) | ((with_reducible show Z.VX _ (L2.V.ref _) (L2.V.int 2) _ _); with_reducible refine Z.vx_l2 (by wtm_at "kq") ?_) | ((with_reducible show Z.VX _ (L2.V.ref _) (L2.V.int 3) _ _); with_reducible refine Z.vx_l3 (by wtm_at "kq") ?_) | ((with_reducible show Z.VC _ (PySem.Value.builtin "len") [L2.V.ref _] _ _); with_reducible refine Z.vc_lenL (by wtm_at "kq") ?_) | ((with_reducible show Z.VC _ (PySem.Value.builtin "len") [L2.V.ref _] _ _); with_reducible refine Z.vc_lenT (by wtm_at "kq") ?_) | ((with_reducible show Z.VT _ (L2.V.ref _) _ _); with_reducible refine Z.vt_tup (by wtm_at "kq") ?_) | ((with_reducible show Z.VT _ (L2.V.ref _) _ _); with_reducible refine Z.vt_lst (by wtm_at "kq") ?_) | ((with_reducible show Z.VO _ (PySem.binaryOp PySem.Operator.FloorDiv) _ _ _ _); refine Z.vo_fdiv (by exact ⟨by decide, by decide⟩) ?_) | ((with_reducible show Z.VO _ (PySem.binaryOp PySem.Operator.Mod) _ _ _ _); refine Z.vo_mod (by decide) ?_) | ((with_reducible show _ ∧ _); refine ⟨by exact Z.sz_ (by first | decide | (simp; done) | (simp; omega)), ?_⟩) | fail)
local macro_rules | `(tactic| wtm_at "d") => `(tactic| fail)
local macro_rules | `(tactic| wtm_at "s") => `(tactic| first | ((with_reducible show Z.XE _ _ _ _ _); first | ((with_reducible show Z.XE _ (PySem.Expr.Name _ _) _ _ _); first | ((with_reducible show Z.XE _ (PySem.Expr.Name _ _) _ _ _); refine Z.xe_var (by assumption) (by wtm_at "m") (by wtm_at "a") ?_) | wtm_at "d" | fail) | ((with_reducible show Z.XE _ (PySem.Expr.Constant _ _ _) _ _ _); first | with_reducible refine Z.xe_int ?_ | with_reducible refine Z.xe_bl ?_ | with_reducible refine Z.xe_non ?_ | wtm_at "d" | fail) | ((with_reducible show Z.XE _ (PySem.Expr.Call _ _ _ _) _ _ _); first | ((with_reducible show Z.XE _ (PySem.Expr.Call (PySem.Expr.Attribute _ "append" _) [_] [] _) _ _ _); refine Z.xe_append ?_) | wtm_at "d" | fail) | ((with_reducible show Z.XE _ (PySem.Expr.Subscript _ _ _) _ _ _); first | ((with_reducible show Z.XE _ (PySem.Expr.Subscript _ (PySem.Expr.Slice none none (some _) _) _) _ _ _); refine Z.xe_revL ?_) | ((with_reducible show Z.XE _ (PySem.Expr.Subscript _ (PySem.Expr.Slice _ _ none _) _) _ _ _); refine Z.xe_sl ?_) | ((with_reducible show Z.XE _ (PySem.Expr.Subscript _ _ _) _ _ _); refine Z.xe_ix ?_) | fail) | with_reducible refine Z.xe_bin ?_ | ((with_reducible show Z.XE _ (PySem.Expr.Compare _ [_] [_] _) _ _ _); refine Z.xe_cmp ?_) | with_reducible refine Z.xe_not ?_ | with_reducible refine Z.xe_un ?_ | with_reducible refine Z.xe_and ?_ | with_reducible refine Z.xe_or ?_ | with_reducible refine Z.xe_one ?_ | with_reducible refine Z.xe_tup ?_ | with_reducible refine Z.xe_lst ?_ | with_reducible refine Z.xe_ifExp ?_ | ((with_reducible show Z.XE _ (PySem.Expr.Compare _ [_, _] [_, _] _) _ _ _); refine Z.xe_chain ?_) | fail) | ((with_reducible show Z.VO _ _ _ _ _ _); first | with_reducible refine Z.vo_add ?_ | with_reducible refine Z.vo_sub ?_ | with_reducible refine Z.vo_lt ?_ | with_reducible refine Z.vo_le ?_ | with_reducible refine Z.vo_gt ?_ | with_reducible refine Z.vo_ge ?_ | with_reducible refine Z.vo_eq ?_ | with_reducible refine Z.vo_ne ?_ | with_reducible refine Z.vo_eqB ?_ | with_reducible refine Z.vo_neB ?_ | with_reducible refine Z.vo_isB ?_ | with_reducible refine Z.vo_isN ?_ | with_reducible refine Z.vo_notN ?_ | with_reducible refine Z.vo_notB ?_ | wtm_at "v" | fail) | ((with_reducible show Z.XS _ _ _ _ _ _); first | ((with_reducible show Z.XS _ (PySem.Stmt.Assign [PySem.Expr.Name _ _] _ _) _ _ _ _); (fail_if_success (with_reducible show Z.XS _ (PySem.Stmt.Assign [_] (PySem.Expr.ListComp _ _ _ _) _) _ _ _ _)); refine Z.xs_set (by assumption) ?_ (hx := by wtm_at "m") (hl := by wtm_at "m")) | with_reducible refine Z.xs_ret ?_ | ((with_reducible show Z.XS _ (PySem.Stmt.Expr _ _) _ _ _ _); refine Z.xs_expr ?_) | with_reducible refine Z.xs_if ?_ | with_reducible refine Z.xs_pass ?_ | with_reducible refine Z.xs_break ?_ | with_reducible refine Z.xs_cont ?_ | with_reducible refine Z.xs_retN ?_ | ((with_reducible show Z.XS _ (PySem.Stmt.AugAssign (PySem.Expr.Name _ _) _ _ _) _ _ _ _); refine Z.xs_aug (by assumption) (by wtm_at "a") (by wtm_at "m") ?_) | ((with_reducible show Z.XS _ (PySem.Stmt.Assign [PySem.Expr.Tuple _ _ _] (PySem.Expr.Call _ _ _ _) _) _ _ _ _); refine Z.xs_asg ?_) | ((with_reducible show Z.XS _ (PySem.Stmt.Assign [PySem.Expr.Tuple _ _ _] (PySem.Expr.IfExp _ _ _ _) _) _ _ _ _); refine Z.xs_asg ?_) | ((with_reducible show Z.XS _ (PySem.Stmt.Assign [PySem.Expr.Tuple _ _ _] (PySem.Expr.Name _ _) _) _ _ _ _); refine Z.xs_asg ?_) | fail) | ((with_reducible show Z.XB _ _ _ _ _ _); first | with_reducible refine Z.xb_cons ?_ | with_reducible refine Z.xb_nil ?_ | fail) | ((with_reducible show Z.XT _ _ _ _ _); first | ((with_reducible show Z.XT _ (PySem.Expr.Compare _ [_] [_] _) _ _ _); refine Z.xt_cmp ?_) | with_reducible refine Z.xt_bool ?_ | with_reducible refine Z.xt_not ?_ | ((with_reducible show Z.XT _ (PySem.Expr.Compare _ [_, _] [_, _] _) _ _ _); refine Z.xt_chain ?_) | ((with_reducible show Z.XT _ (PySem.Expr.Call _ _ _ _) _ _ _); refine Z.xt_val ?_) | ((with_reducible show Z.XT _ (PySem.Expr.Name _ _) _ _ _); refine Z.xt_val ?_) | ((with_reducible show Z.XT _ (PySem.Expr.Subscript _ _ _) _ _ _); refine Z.xt_val ?_) | ((with_reducible show Z.XT _ (PySem.Expr.Attribute _ _ _) _ _ _); refine Z.xt_val ?_) | ((with_reducible show Z.XT _ (PySem.Expr.Constant _ _ _) _ _ _); refine Z.xt_val ?_) | fail) | ((with_reducible show Z.VX _ _ _ _ _); first | wtm_at "v" | fail) | ((with_reducible show Z.VC _ _ _ _ _); first | with_reducible refine Z.vc_intB ?_ | with_reducible refine Z.vc_int ?_ | with_reducible refine Z.vc_abs ?_ | wtm_at "v" | fail) | ((with_reducible show Z.XA _ _ _ _ _); first | ((with_reducible show Z.XA _ (PySem.Expr.Starred _ _ :: _) _ _ _); refine Z.xa_star ?_) | ((with_reducible show Z.XA _ (_ :: _) _ _ _); refine Z.xa_cons ?_) | with_reducible refine Z.xa_nil ?_ | fail) | ((with_reducible show Z.VT _ _ _ _); first | with_reducible refine Z.vt_bl ?_ | with_reducible refine Z.vt_int ?_ | wtm_at "v" | fail) | ((with_reducible show Z.XW _ _ _ _ _); first | with_reducible refine Z.xw_and ?_ | with_reducible refine Z.xw_and1 ?_ | with_reducible refine Z.xw_or ?_ | with_reducible refine Z.xw_or1 ?_ | fail) | ((with_reducible show Z.XO _ _ _ _ _); first | with_reducible refine Z.xo_none ?_ | with_reducible refine Z.xo_some ?_ | fail) | ((with_reducible show Z.XG _ _ _ _ _ _); first | ((with_reducible show Z.XG _ (PySem.Expr.Name _ _) _ _ _ _); refine Z.xg_name (by assumption) (by wtm_at "m") (by wtm_at "m") ?_) | fail) | ((with_reducible show Z.XGs _ _ _ _ _ _); first | ((with_reducible show Z.XGs _ (_ :: _) _ _ _ _); refine Z.xgs_cons ?_) | with_reducible refine Z.xgs_nil ?_ | fail) | ((with_reducible show Z.VU _ _ _ _ _); first | with_reducible refine Z.vu_neg ?_ | fail) | ((with_reducible show Z.VIp _ _ _ _ _ _); first | with_reducible refine Z.vip_add ?_ | with_reducible refine Z.vip_sub ?_ | fail) | with_reducible refine Z.ex_bl ?_ | ((with_reducible show ∃ i, L2.V.int _ = L2.V.int i ∧ _); refine ⟨_, rfl, ?_⟩) | with_reducible refine L2.iteT ?_ | with_reducible refine L2.iteF ?_ | with_reducible refine Z.ite_NT ?_ | with_reducible refine Z.ite_NF ?_ | ((with_reducible show ∃ l xs, L2.V.ref _ = L2.V.ref l ∧ _ ∧ Z.XE _ _ _ _ _); refine ⟨_, _, rfl, by wtm_at "kp", ?_⟩) | ((with_reducible show ∃ _, Z.Put _ _ _ _ _ ∧ _); refine ⟨_, by wtm_at "u", ?_⟩) | ((with_reducible show _ ∧ _); wtm_at "v") | fail)
local macro_rules | `(tactic| wtm_at "w") => `(tactic| repeat wtm_at "s")
local macro_rules | `(tactic| wtm_at "ws") => `(tactic| repeat (first | wtm_at "s" | with_reducible refine Z.xe_str ?_ | with_reducible refine Law.vo_eqS ?_ | with_reducible refine Law.vo_neS ?_ | fail))


namespace Law
open PySem
open L2 hiding XE
open Z
def topS (i : Nat) : Stmt := PySem.Challenge.pw_sealround_k81_whole_later_things.main.body.getD i (.Pass ⟨0, 0, 0, 0⟩)
abbrev s_digest : Stmt := topS 4
theorem sc_digest : FnScope ["mixing", "row", "state", "number"] ["mixing", "row"] (defScope s_digest) := ⟨rfl, rfl, rfl, by decide +kernel, rfl, by decide +kernel, by decide +kernel⟩
theorem oc_digest : okC (defScope s_digest) ["mixing", "row", "state", "number"] ["mixing", "row", "state", "number"] ["_mixed", "len"] = true := by decide +kernel
abbrev s__mixed : Stmt := topS 5
theorem sc__mixed : FnScope ["mixing", "state", "number"] ["mixing", "state", "number"] (defScope s__mixed) := ⟨rfl, rfl, rfl, by decide +kernel, rfl, by decide +kernel, by decide +kernel⟩
theorem oc__mixed : okC (defScope s__mixed) ["mixing", "state", "number"] ["mixing", "state", "number"] ["PRIME"] = true := by decide +kernel
abbrev s_digest_of : Stmt := topS 7
theorem sc_digest_of : FnScope ["mixing", "row"] ["mixing", "row"] (defScope s_digest_of) := ⟨rfl, rfl, rfl, by decide +kernel, rfl, by decide +kernel, by decide +kernel⟩
theorem oc_digest_of : okC (defScope s_digest_of) ["mixing", "row"] ["mixing", "row"] ["digest"] = true := by decide +kernel
abbrev s_is_thing : Stmt := topS 13
theorem sc_is_thing : FnScope ["row", "kind"] ["row"] (defScope s_is_thing) := ⟨rfl, rfl, rfl, by decide +kernel, rfl, by decide +kernel, by decide +kernel⟩
theorem oc_is_thing : okC (defScope s_is_thing) ["row", "kind"] ["row", "kind"] ["BEACON", "len", "DOCUMENT", "_is_document", "HEAD", "_is_head", "RENEWAL"] = true := by decide +kernel
abbrev s__is_document : Stmt := topS 14
theorem sc__is_document : FnScope ["row"] ["row"] (defScope s__is_document) := ⟨rfl, rfl, rfl, by decide +kernel, rfl, by decide +kernel, by decide +kernel⟩
theorem oc__is_document : okC (defScope s__is_document) ["row"] ["row"] ["len"] = true := by decide +kernel
abbrev s__is_head : Stmt := topS 15
theorem sc__is_head : FnScope ["row", "number", "count"] ["row"] (defScope s__is_head) := ⟨rfl, rfl, rfl, by decide +kernel, rfl, by decide +kernel, by decide +kernel⟩
theorem oc__is_head : okC (defScope s__is_head) ["row", "number", "count"] ["row", "number", "count"] ["len", "_back_count"] = true := by decide +kernel
abbrev s_kind_of : Stmt := topS 16
theorem sc_kind_of : FnScope ["row"] ["row"] (defScope s_kind_of) := ⟨rfl, rfl, rfl, by decide +kernel, rfl, by decide +kernel, by decide +kernel⟩
theorem oc_kind_of : okC (defScope s_kind_of) ["row"] ["row"] [] = true := by decide +kernel
abbrev s__back_count : Stmt := topS 17
theorem sc__back_count : FnScope ["number"] ["number"] (defScope s__back_count) := ⟨rfl, rfl, rfl, by decide +kernel, rfl, by decide +kernel, by decide +kernel⟩
theorem oc__back_count : okC (defScope s__back_count) ["number"] ["number"] ["_greatest_step"] = true := by decide +kernel
abbrev s__greatest_step : Stmt := topS 18
theorem sc__greatest_step : FnScope ["number"] ["number"] (defScope s__greatest_step) := ⟨rfl, rfl, rfl, by decide +kernel, rfl, by decide +kernel, by decide +kernel⟩
theorem oc__greatest_step : okC (defScope s__greatest_step) ["number"] ["number"] [] = true := by decide +kernel
abbrev s__first_count : Stmt := topS 21
theorem sc__first_count : FnScope ["count"] ["count"] (defScope s__first_count) := ⟨rfl, rfl, rfl, by decide +kernel, rfl, by decide +kernel, by decide +kernel⟩
theorem oc__first_count : okC (defScope s__first_count) ["count"] ["count"] [] = true := by decide +kernel
abbrev s_root_of : Stmt := topS 22
theorem sc_root_of : FnScope ["mixing", "entries", "root", "_"] ["mixing", "entries"] (defScope s_root_of) := ⟨rfl, rfl, rfl, by decide +kernel, rfl, by decide +kernel, by decide +kernel⟩
theorem oc_root_of : okC (defScope s_root_of) ["mixing", "entries", "root", "_"] ["mixing", "entries", "root", "_"] ["_root_and_nodes"] = true := by decide +kernel
abbrev s__root_and_nodes : Stmt := topS 23
theorem sc__root_and_nodes : FnScope ["mixing", "entries", "middle", "left", "left_nodes", "right", "right_nodes", "node"] ["mixing", "entries"] (defScope s__root_and_nodes) := ⟨rfl, rfl, rfl, by decide +kernel, rfl, by decide +kernel, by decide +kernel⟩
theorem oc__root_and_nodes : okC (defScope s__root_and_nodes) ["mixing", "entries", "middle", "left", "left_nodes", "right", "right_nodes", "node"] ["mixing", "entries", "middle", "left", "left_nodes", "right", "right_nodes", "node"] ["len", "_first_count", "_root_and_nodes", "NODE", "digest"] = true := by decide +kernel
abbrev s_way_of : Stmt := topS 24
theorem sc_way_of : FnScope ["mixing", "entries", "index", "way", "part", "in_second", "middle", "first", "second", "beside"] ["mixing", "entries", "index"] (defScope s_way_of) := ⟨rfl, rfl, rfl, by decide +kernel, rfl, by decide +kernel, by decide +kernel⟩
theorem oc_way_of : okC (defScope s_way_of) ["mixing", "entries", "index", "way", "part", "in_second", "middle", "first", "second", "beside"] ["mixing", "entries", "index", "way", "part", "in_second", "middle", "first", "second", "beside"] ["turns", "len", "_first_count", "root_of", "tuple"] = true := by decide +kernel
abbrev s_turns : Stmt := topS 25
theorem sc_turns : FnScope ["count", "index", "found", "size", "at", "middle", "in_second"] ["count", "index"] (defScope s_turns) := ⟨rfl, rfl, rfl, by decide +kernel, rfl, by decide +kernel, by decide +kernel⟩
theorem oc_turns : okC (defScope s_turns) ["count", "index", "found", "size", "at", "middle", "in_second"] ["count", "index", "found", "size", "at", "middle", "in_second"] ["_first_count"] = true := by decide +kernel
abbrev s__nodes_up : Stmt := topS 26
theorem sc__nodes_up : FnScope ["mixing", "count", "index", "entry", "way", "nodes", "below", "in_second", "beside", "node"] ["mixing", "count", "index", "entry", "way"] (defScope s__nodes_up) := ⟨rfl, rfl, rfl, by decide +kernel, rfl, by decide +kernel, by decide +kernel⟩
theorem oc__nodes_up : okC (defScope s__nodes_up) ["mixing", "count", "index", "entry", "way", "nodes", "below", "in_second", "beside", "node"] ["mixing", "count", "index", "entry", "way", "nodes", "below", "in_second", "beside", "node"] ["zip", "turns", "NODE", "digest"] = true := by decide +kernel
abbrev s_clash_of_ways : Stmt := topS 27
theorem sc_clash_of_ways : FnScope ["mixing", "count", "index", "one", "two", "one_entry", "one_way", "two_entry", "two_way", "one_nodes", "two_nodes"] ["mixing", "count", "index", "one", "two"] (defScope s_clash_of_ways) := ⟨rfl, rfl, rfl, by decide +kernel, rfl, by decide +kernel, by decide +kernel⟩
theorem oc_clash_of_ways : okC (defScope s_clash_of_ways) ["mixing", "count", "index", "one", "two", "one_entry", "one_way", "two_entry", "two_way", "one_nodes", "two_nodes"] ["mixing", "count", "index", "one", "two", "one_entry", "one_way", "two_entry", "two_way", "one_nodes", "two_nodes"] ["_nodes_up", "_first_difference"] = true := by decide +kernel
abbrev s_clash_of_entries : Stmt := topS 28
theorem sc_clash_of_entries : FnScope ["mixing", "one", "two", "_", "one_nodes", "two_nodes"] ["mixing", "one", "two"] (defScope s_clash_of_entries) := ⟨rfl, rfl, rfl, by decide +kernel, rfl, by decide +kernel, by decide +kernel⟩
theorem oc_clash_of_entries : okC (defScope s_clash_of_entries) ["mixing", "one", "two", "_", "one_nodes", "two_nodes"] ["mixing", "one", "two", "_", "one_nodes", "two_nodes"] ["_root_and_nodes", "_first_difference"] = true := by decide +kernel
abbrev s__first_difference : Stmt := topS 29
theorem sc__first_difference : FnScope ["one_nodes", "two_nodes", "one", "two"] ["one_nodes", "two_nodes"] (defScope s__first_difference) := ⟨rfl, rfl, rfl, by decide +kernel, rfl, by decide +kernel, by decide +kernel⟩
theorem oc__first_difference : okC (defScope s__first_difference) ["one_nodes", "two_nodes", "one", "two"] ["one_nodes", "two_nodes", "one", "two"] ["zip"] = true := by decide +kernel
abbrev s_listed : Stmt := topS 34
theorem sc_listed : FnScope ["row", "word", "kind"] ["row", "word"] (defScope s_listed) := ⟨rfl, rfl, rfl, by decide +kernel, rfl, by decide +kernel, by decide +kernel⟩
theorem oc_listed : okC (defScope s_listed) ["row", "word", "kind"] ["row", "word", "kind"] ["kind_of", "CITE", "DOCUMENT", "BACK", "HEAD"] = true := by decide +kernel
abbrev s_rows_of : Stmt := topS 40
theorem sc_rows_of : FnScope ["paper", "row", "_"] ["paper"] (defScope s_rows_of) := ⟨rfl, rfl, rfl, by decide +kernel, rfl, by decide +kernel, by decide +kernel⟩
theorem oc_rows_of : okC (defScope s_rows_of) ["paper"] ["paper"] [] = true := by decide +kernel
abbrev s_trace : Stmt := topS 42
theorem sc_trace : FnScope ["library", "paper", "rows", "step", "row", "place", "before", "clash"] ["library", "paper"] (defScope s_trace) := ⟨rfl, rfl, rfl, by decide +kernel, rfl, by decide +kernel, by decide +kernel⟩
theorem oc_trace : okC (defScope s_trace) ["library", "paper", "rows", "step", "row", "place", "before", "clash"] ["library", "paper", "rows", "step", "row", "place", "before", "clash"] ["rows_of", "range", "len", "_clash_at", "digest"] = true := by decide +kernel
abbrev s__clash_at : Stmt := topS 43
theorem sc__clash_at : FnScope ["library", "before", "row", "place", "mark", "clash", "known"] ["library", "before", "row", "place"] (defScope s__clash_at) := ⟨rfl, rfl, rfl, by decide +kernel, rfl, by decide +kernel, by decide +kernel⟩
theorem oc__clash_at : okC (defScope s__clash_at) ["library", "before", "row", "place", "mark", "clash", "known"] ["library", "before", "row", "place", "mark", "clash", "known"] ["digest", "ENTRY", "_clash_in_tree"] = true := by decide +kernel
abbrev s__clash_in_tree : Stmt := topS 44
theorem sc__clash_in_tree : FnScope ["library", "mark", "row", "place", "mixing", "_", "index", "way", "entries", "known"] ["library", "mark", "row", "place"] (defScope s__clash_in_tree) := ⟨rfl, rfl, rfl, by decide +kernel, rfl, by decide +kernel, by decide +kernel⟩
theorem oc__clash_in_tree : okC (defScope s__clash_in_tree) ["library", "mark", "row", "place", "mixing", "_", "index", "way", "entries", "known"] ["library", "mark", "row", "place", "mixing", "_", "index", "way", "entries", "known"] ["digest", "way_of", "clash_of_ways", "len"] = true := by decide +kernel
abbrev s__are_entries : Stmt := topS 47
theorem sc__are_entries : FnScope ["mixing", "row", "entries", "count", "root"] ["mixing", "row", "entries"] (defScope s__are_entries) := ⟨rfl, rfl, rfl, by decide +kernel, rfl, by decide +kernel, by decide +kernel⟩
theorem oc__are_entries : okC (defScope s__are_entries) ["mixing", "row", "entries", "count", "root"] ["mixing", "row", "entries", "count", "root"] ["kind_of", "HEAD", "len", "root_of"] = true := by decide +kernel
abbrev s__law_cell : Stmt := topS 49
theorem sc__law_cell : FnScope ["script", "k"] ["script", "k"] (defScope s__law_cell) := ⟨rfl, rfl, rfl, by decide +kernel, rfl, by decide +kernel, by decide +kernel⟩
theorem oc__law_cell : okC (defScope s__law_cell) ["script", "k"] ["script", "k"] ["len"] = true := by decide +kernel
abbrev s__law_row : Stmt := topS 50
theorem sc__law_row : FnScope ["script", "first", "last", "row", "k", "cell", "turn"] ["script", "first", "last"] (defScope s__law_row) := ⟨rfl, rfl, rfl, by decide +kernel, rfl, by decide +kernel, by decide +kernel⟩
theorem oc__law_row : okC (defScope s__law_row) ["script", "first", "last", "row", "k", "cell", "turn"] ["script", "first", "last", "row", "k", "cell", "turn"] ["range", "_law_cell", "abs", "int"] = true := by decide +kernel
abbrev s__law_draw : Stmt := topS 51
theorem sc__law_draw : FnScope ["box", "many", "at"] ["box", "many"] (defScope s__law_draw) := ⟨rfl, rfl, rfl, by decide +kernel, rfl, by decide +kernel, by decide +kernel⟩
theorem oc__law_draw : okC (defScope s__law_draw) ["box", "many", "at"] ["box", "many", "at"] ["len", "int"] = true := by decide +kernel
abbrev s__law_digest : Stmt := topS 53
theorem sc__law_digest : FnScope ["m", "row", "state", "n"] ["m", "row"] (defScope s__law_digest) := ⟨rfl, rfl, rfl, by decide +kernel, rfl, by decide +kernel, by decide +kernel⟩
theorem oc__law_digest : okC (defScope s__law_digest) ["m", "row", "state", "n"] ["m", "row", "state", "n"] ["len", "list", "int"] = true := by decide +kernel
abbrev s__law_number : Stmt := topS 54
theorem sc__law_number : FnScope ["box", "kind", "n", "turn"] ["box"] (defScope s__law_number) := ⟨rfl, rfl, rfl, by decide +kernel, rfl, by decide +kernel, by decide +kernel⟩
theorem oc__law_number : okC (defScope s__law_number) ["box", "kind", "n", "turn"] ["box", "kind", "n", "turn"] ["_law_draw", "range"] = true := by decide +kernel
abbrev s__law_mixing : Stmt := topS 55
theorem sc__law_mixing : FnScope ["box", "bound", "factor"] ["box"] (defScope s__law_mixing) := ⟨rfl, rfl, rfl, by decide +kernel, rfl, by decide +kernel, by decide +kernel⟩
theorem oc__law_mixing : okC (defScope s__law_mixing) ["box", "bound", "factor"] ["box", "bound", "factor"] ["_law_draw", "int", "_law_number"] = true := by decide +kernel
abbrev s__law_backs : Stmt := topS 57
theorem sc__law_backs : FnScope ["number", "out", "step", "turn"] ["number"] (defScope s__law_backs) := ⟨rfl, rfl, rfl, by decide +kernel, rfl, by decide +kernel, by decide +kernel⟩
theorem oc__law_backs : okC (defScope s__law_backs) ["number", "out", "step", "turn"] ["number", "out", "step", "turn"] ["range", "int"] = true := by decide +kernel
abbrev s__law_half : Stmt := topS 58
theorem sc__law_half : FnScope ["count", "k", "turn"] ["count"] (defScope s__law_half) := ⟨rfl, rfl, rfl, by decide +kernel, rfl, by decide +kernel, by decide +kernel⟩
theorem oc__law_half : okC (defScope s__law_half) ["count", "k", "turn"] ["count", "k", "turn"] ["range"] = true := by decide +kernel
abbrev s__law_root : Stmt := topS 59
theorem sc__law_root : FnScope ["m", "entries", "k"] ["m", "entries"] (defScope s__law_root) := ⟨rfl, rfl, rfl, by decide +kernel, rfl, by decide +kernel, by decide +kernel⟩
theorem oc__law_root : okC (defScope s__law_root) ["m", "entries", "k"] ["m", "entries", "k"] ["len", "_law_half", "_law_digest", "_law_root"] = true := by decide +kernel
abbrev s__law_way : Stmt := topS 61
theorem sc__law_way : FnScope ["m", "entries", "index", "way", "turn", "k"] ["m", "entries", "index"] (defScope s__law_way) := ⟨rfl, rfl, rfl, by decide +kernel, rfl, by decide +kernel, by decide +kernel⟩
theorem oc__law_way : okC (defScope s__law_way) ["m", "entries", "index", "way", "turn", "k"] ["m", "entries", "index", "way", "turn", "k"] ["range", "len", "tuple", "_law_half", "_law_root"] = true := by decide +kernel
abbrev s__law_new_head : Stmt := topS 64
theorem sc__law_new_head : FnScope ["box", "world", "service", "mine", "number", "hour", "entries", "k", "backs", "row", "one"] ["box", "world"] (defScope s__law_new_head) := ⟨rfl, rfl, rfl, by decide +kernel, rfl, by decide +kernel, by decide +kernel⟩
theorem oc__law_new_head : okC (defScope s__law_new_head) ["box", "world", "service", "mine", "number", "hour", "entries", "k", "backs", "row"] ["box", "world", "service", "mine", "number", "hour", "entries", "k", "backs", "row"] ["_law_draw", "len", "range", "_law_digest", "int", "_law_number", "_law_backs", "_law_root", "tuple"] = true := by decide +kernel
abbrev s__law_new_thing : Stmt := topS 65
theorem sc__law_new_thing : FnScope ["box", "world", "kind", "cites", "k", "body"] ["box", "world"] (defScope s__law_new_thing) := ⟨rfl, rfl, rfl, by decide +kernel, rfl, by decide +kernel, by decide +kernel⟩
theorem oc__law_new_thing : okC (defScope s__law_new_thing) ["box", "world", "kind", "cites", "k", "body"] ["box", "world", "kind", "cites", "k", "body"] ["_law_draw", "_law_new_head", "_law_number", "int", "range", "len", "_law_digest", "tuple"] = true := by decide +kernel
abbrev s__law_places : Stmt := topS 67
theorem sc__law_places : FnScope ["m", "row", "entries", "out", "k"] ["m", "row", "entries"] (defScope s__law_places) := ⟨rfl, rfl, rfl, by decide +kernel, rfl, by decide +kernel, by decide +kernel⟩
theorem oc__law_places : okC (defScope s__law_places) ["m", "row", "entries", "out"] ["m", "row", "entries", "out"] ["range", "len"] = true := by decide +kernel
abbrev s__law_fits_back : Stmt := topS 68
theorem sc__law_fits_back : FnScope ["before", "row", "place"] ["before", "row", "place"] (defScope s__law_fits_back) := ⟨rfl, rfl, rfl, by decide +kernel, rfl, by decide +kernel, by decide +kernel⟩
theorem oc__law_fits_back : okC (defScope s__law_fits_back) ["before", "row", "place"] ["before", "row", "place"] ["_law_backs"] = true := by decide +kernel
abbrev s__law_ahead : Stmt := topS 69
theorem sc__law_ahead : FnScope ["world", "row", "out", "digests", "pair", "k", "before"] ["world", "row"] (defScope s__law_ahead) := ⟨rfl, rfl, rfl, by decide +kernel, rfl, by decide +kernel, by decide +kernel⟩
theorem oc__law_ahead : okC (defScope s__law_ahead) ["world", "row", "out", "digests", "pair", "k"] ["world", "row", "out", "digests", "pair", "k"] ["_law_places", "range", "len", "_law_fits_back"] = true := by decide +kernel
abbrev s__law_walk : Stmt := topS 70
theorem sc__law_walk : FnScope ["box", "world", "row", "most", "steps", "turn", "ahead", "one"] ["box", "world", "row", "most"] (defScope s__law_walk) := ⟨rfl, rfl, rfl, by decide +kernel, rfl, by decide +kernel, by decide +kernel⟩
theorem oc__law_walk : okC (defScope s__law_walk) ["box", "world", "row", "most", "steps", "turn", "ahead", "one"] ["box", "world", "row", "most", "steps", "turn", "ahead", "one"] ["range", "_law_ahead", "len", "_law_draw"] = true := by decide +kernel
abbrev s__law_small : Stmt := topS 71
theorem sc__law_small : FnScope ["box", "world"] ["box", "world"] (defScope s__law_small) := ⟨rfl, rfl, rfl, by decide +kernel, rfl, by decide +kernel, by decide +kernel⟩
theorem oc__law_small : okC (defScope s__law_small) ["box", "world"] ["box", "world"] ["_law_draw"] = true := by decide +kernel
abbrev s__law_made_world : Stmt := topS 72
theorem sc__law_made_world : FnScope ["box", "many", "world", "k", "made"] ["box", "many"] (defScope s__law_made_world) := ⟨rfl, rfl, rfl, by decide +kernel, rfl, by decide +kernel, by decide +kernel⟩
theorem oc__law_made_world : okC (defScope s__law_made_world) ["box", "many", "world", "k", "made"] ["box", "many", "world", "k", "made"] ["_law_small", "_law_mixing", "range", "_law_new_thing"] = true := by decide +kernel
abbrev s__law_closed : Stmt := topS 73
theorem sc__law_closed : FnScope ["world", "known", "row", "held", "whole", "number", "pair", "one"] ["world"] (defScope s__law_closed) := ⟨rfl, rfl, rfl, by decide +kernel, rfl, by decide +kernel, by decide +kernel⟩
theorem oc__law_closed : okC (defScope s__law_closed) ["world", "known", "row", "held", "whole", "number"] ["world", "known", "row", "held", "whole", "number"] ["_law_places", "len", "_law_digest"] = true := by decide +kernel
abbrev s__law_trace_ok : Stmt := topS 74
theorem sc__law_trace_ok : FnScope ["m", "known", "told", "paper", "rows", "step", "row"] ["m", "known", "told", "paper"] (defScope s__law_trace_ok) := ⟨rfl, rfl, rfl, by decide +kernel, rfl, by decide +kernel, by decide +kernel⟩
theorem oc__law_trace_ok : okC (defScope s__law_trace_ok) ["m", "known", "told", "paper", "rows"] ["m", "known", "told", "paper", "rows"] ["len", "isinstance", "tuple", "_law_digest"] = true := by decide +kernel
abbrev s__law_put_all : Stmt := topS 75
theorem sc__law_put_all : FnScope ["library", "world", "rows", "row", "told"] ["library", "world", "rows"] (defScope s__law_put_all) := ⟨rfl, rfl, rfl, by decide +kernel, rfl, by decide +kernel, by decide +kernel⟩
theorem oc__law_put_all : okC (defScope s__law_put_all) ["library", "world", "rows", "row", "told"] ["library", "world", "rows", "row", "told"] ["list", "isinstance", "tuple", "len", "_law_digest"] = true := by decide +kernel
abbrev s_law : Stmt := topS 76
theorem sc_law : FnScope ["script", "box", "world", "m", "many", "known", "library", "rows", "papers", "told", "turn", "paper", "k", "number"] ["script"] (defScope s_law) := ⟨rfl, rfl, rfl, by decide +kernel, rfl, by decide +kernel, by decide +kernel⟩
theorem oc_law : okC (defScope s_law) ["script", "box", "world", "m", "many", "known", "library", "rows", "papers", "told", "turn", "paper", "k"] ["script", "box", "world", "m", "many", "known", "library", "rows", "papers", "told", "turn", "paper", "k"] ["_law_row", "_law_made_world", "int", "_law_draw", "len", "_law_closed", "Library", "Mixing", "_law_put_all", "range", "_law_walk", "trace", "Paper", "list", "_law_trace_ok"] = true := by decide +kernel
abbrev CxOf_law (X : Cx) (k : Nat) : Prop := Ctx X (defScope s_law) ["script", "box", "world", "m", "many", "known", "library", "rows", "papers", "told", "turn", "paper", "k", "number"] ["script", "box", "world", "m", "many", "known", "library", "rows", "papers", "told", "turn", "paper", "k"] ["script", "box", "world", "m", "many", "known", "library", "rows", "papers", "told", "turn", "paper", "k"] ["_law_row", "_law_made_world", "int", "_law_draw", "len", "_law_closed", "Library", "Mixing", "_law_put_all", "range", "_law_walk", "trace", "Paper", "list", "_law_trace_ok"] k
abbrev s_Mixing___init__ : Stmt := inClass (topS 3) 0
theorem sc_Mixing___init__ : FnScope ["self", "bound", "factor"] ["self", "bound", "factor"] (defScope s_Mixing___init__) := ⟨rfl, rfl, rfl, by decide +kernel, rfl, by decide +kernel, by decide +kernel⟩
theorem oc_Mixing___init__ : okC (defScope s_Mixing___init__) ["self", "bound", "factor"] ["self", "bound", "factor"] [] = true := by decide +kernel
abbrev s_Paper___init__ : Stmt := inClass (topS 39) 0
theorem sc_Paper___init__ : FnScope ["self", "first", "steps"] ["self", "first", "steps"] (defScope s_Paper___init__) := ⟨rfl, rfl, rfl, by decide +kernel, rfl, by decide +kernel, by decide +kernel⟩
theorem oc_Paper___init__ : okC (defScope s_Paper___init__) ["self", "first", "steps"] ["self", "first", "steps"] ["list"] = true := by decide +kernel
abbrev s_Library___init__ : Stmt := inClass (topS 46) 0
theorem sc_Library___init__ : FnScope ["self", "mixing"] ["self", "mixing"] (defScope s_Library___init__) := ⟨rfl, rfl, rfl, by decide +kernel, rfl, by decide +kernel, by decide +kernel⟩
theorem oc_Library___init__ : okC (defScope s_Library___init__) ["self", "mixing"] ["self", "mixing"] [] = true := by decide +kernel
abbrev s_Library_put : Stmt := inClass (topS 46) 1
theorem sc_Library_put : FnScope ["self", "row", "entries", "mark", "known"] ["self", "row", "entries"] (defScope s_Library_put) := ⟨rfl, rfl, rfl, by decide +kernel, rfl, by decide +kernel, by decide +kernel⟩
theorem oc_Library_put : okC (defScope s_Library_put) ["self", "row", "entries", "mark", "known"] ["self", "row", "entries", "mark", "known"] ["is_thing", "ThingError", "_are_entries", "digest_of", "kind_of", "HEAD", "list", "clash_of_entries"] = true := by decide +kernel
abbrev s_Library_row_of : Stmt := inClass (topS 46) 2
theorem sc_Library_row_of : FnScope ["self", "digest"] ["self", "digest"] (defScope s_Library_row_of) := ⟨rfl, rfl, rfl, by decide +kernel, rfl, by decide +kernel, by decide +kernel⟩
theorem oc_Library_row_of : okC (defScope s_Library_row_of) ["self", "digest"] ["self", "digest"] [] = true := by decide +kernel
abbrev s_Library_entries_of : Stmt := inClass (topS 46) 3
theorem sc_Library_entries_of : FnScope ["self", "digest"] ["self", "digest"] (defScope s_Library_entries_of) := ⟨rfl, rfl, rfl, by decide +kernel, rfl, by decide +kernel, by decide +kernel⟩
theorem oc_Library_entries_of : okC (defScope s_Library_entries_of) ["self", "digest"] ["self", "digest"] ["list"] = true := by decide +kernel
abbrev s_Library_rows : Stmt := inClass (topS 46) 4
theorem sc_Library_rows : FnScope ["self"] ["self"] (defScope s_Library_rows) := ⟨rfl, rfl, rfl, by decide +kernel, rfl, by decide +kernel, by decide +kernel⟩
theorem oc_Library_rows : okC (defScope s_Library_rows) ["self"] ["self"] ["list"] = true := by decide +kernel
abbrev s_Library_gaps : Stmt := inClass (topS 46) 5
theorem sc_Library_gaps : FnScope ["self", "found", "mark", "held", "_"] ["self"] (defScope s_Library_gaps) := ⟨rfl, rfl, rfl, by decide +kernel, rfl, by decide +kernel, by decide +kernel⟩
theorem oc_Library_gaps : okC (defScope s_Library_gaps) ["self", "found", "mark", "held", "_"] ["self", "found", "mark", "held", "_"] [] = true := by decide +kernel
abbrev s_Library_is_closed : Stmt := inClass (topS 46) 6
theorem sc_Library_is_closed : FnScope ["self"] ["self"] (defScope s_Library_is_closed) := ⟨rfl, rfl, rfl, by decide +kernel, rfl, by decide +kernel, by decide +kernel⟩
theorem oc_Library_is_closed : okC (defScope s_Library_is_closed) ["self"] ["self"] [] = true := by decide +kernel
abbrev s_Library__held_by : Stmt := inClass (topS 46) 13
theorem sc_Library__held_by : FnScope ["self", "mark", "row", "found", "entries", "index", "held"] ["self", "mark"] (defScope s_Library__held_by) := ⟨rfl, rfl, rfl, by decide +kernel, rfl, by decide +kernel, by decide +kernel⟩
theorem oc_Library__held_by : okC (defScope s_Library__held_by) ["self", "mark", "row", "found", "entries"] ["self", "mark", "row", "found", "entries"] ["enumerate", "listed", "CITE", "BACK"] = true := by decide +kernel
abbrev s_ThingError___init__ : Stmt := inClass (topS 37) 0
theorem sc_ThingError___init__ : FnScope ["self", "reason"] ["self", "reason"] (defScope s_ThingError___init__) := ⟨rfl, rfl, rfl, by decide +kernel, rfl, by decide +kernel, by decide +kernel⟩
theorem oc_ThingError___init__ : okC (defScope s_ThingError___init__) ["self", "reason"] ["self", "reason"] [] = true := by decide +kernel
/-! o.m(..) -/
structure MetOk (P : Program) (w : World) (K : PySem.W.Frag) (mg : Str → Option Value) (base : Heap) (Cl : Addr) (m : Str) (ps : List Str) (k : Nat) (sp : Sp) : Prop where
  ex : ∃ f fd, FnOk P w K mg base CX0 k f fd ps sp ∧ Meth K Cl m f ∧ Binds K fd ps []
section
variable {X : Cx} {σ : St} {H : Hp} {Q : VK} {N Vs Ls G : List Str} {k k' : Nat} {sc : Scope} {e o : Expr} {es : List Expr} {pos apos mpos p1 : Pos} {m : Str} {ps : List Str} {sp : Sp} {Cl : Addr}
theorem xe_meth {pl : Sem Bool} (C : Ctx X sc N Vs Ls G k) (F : MetOk X.prog X.w X.K X.mg X.base Cl m ps k' sp) (cl : Cls X.K Cl) (hk : k' ≤ k)
    (h : XE X o σ H fun x H1 => ∃ a dx fs, x = .ref a ∧ H1 a = some (.ins Cl dx fs) ∧ List.lookup m fs = none ∧ XA X (e :: es) σ H1 fun vs H2 => sp (x :: vs) H2 Q E0)
    (hpl : (backTo pos (starEach es X.env)).any (·.1) = false := by rfl)
    (hst : starEach (e :: es) X.env = (false, eval e X.env) :: starEach es X.env := by rfl)
    (hcall : eval (.Call (.Attribute o m apos) (e :: es) [] pos) X.env = (do
      let obj ← eval o X.env
      standAt apos.atName
      let (g, who) ← holding [obj] (getMethod obj m pl)
      callWith pos g who (backTo pos (starEach (e :: es) X.env)) (backToKw pos (keywordEach [] X.env))) := by rfl) : XE X (.Call (.Attribute o m apos) (e :: es) [] pos) σ H Q := by
  obtain ⟨f, fd, F, M, b⟩ := F.ex
  refine ⟨_, pe_meth XE.pe cl M F (C.room.mono hk) b .nil pass0 XA.pa hst hpl hcall, ?_⟩
  refine XE.mono h fun x H1 ⟨a, dx, fs, e1, e2, e3, q⟩ => ⟨a, dx, fs, e1, e2, e3, ?_⟩
  refine XA.mono q fun vs H2 q => ?_
  rw [List.append_nil]; exact q
theorem xe_meth0 {pl : Sem Bool} (C : Ctx X sc N Vs Ls G k) (F : MetOk X.prog X.w X.K X.mg X.base Cl m ps k' sp) (cl : Cls X.K Cl) (hk : k' ≤ k)
    (h : XE X o σ H fun x H1 => ∃ a dx fs, x = .ref a ∧ H1 a = some (.ins Cl dx fs) ∧ List.lookup m fs = none ∧ sp [x] H1 Q E0)
    (hcall : eval (.Call (.Attribute o m apos) [] [] pos) X.env = (do
      let obj ← eval o X.env
      standAt apos.atName
      let (g, who) ← holding [obj] (getMethod obj m pl)
      callWith pos g who (backTo pos (starEach [] X.env)) (backToKw pos (keywordEach [] X.env))) := by rfl) : XE X (.Call (.Attribute o m apos) [] [] pos) σ H Q := by
  obtain ⟨f, fd, F, M, b⟩ := F.ex
  refine ⟨_, pe_meth0 XE.pe cl M F (C.room.mono hk) b .nil pass0 hcall, ?_⟩
  refine XE.mono h fun x H1 ⟨a, dx, fs, e1, e2, e3, q⟩ => ⟨a, dx, fs, e1, e2, e3, ?_⟩
  exact q
theorem xe_dnewK (h : ∀ p H', Kp [] H H' → H p = none → H' p = some (.dK []) → Q (.ref p) H') : XE X (.Dict [] [] pos) σ H Q := ⟨_, pe_dnewK, new_ h⟩
end
/-! exceptions: raised, passed on, caught -/
/-- a def's own frame -/
structure Top (X : Cx) : Prop where
  hs : X.stack = X.env :: X.outer
  hf : X.env.frame = some X.env.locals
  hex : X.ex = []
/-- what an exception class of the module must have -/
structure ErrB (K : PySem.W.Frag) (C : Addr) : Prop where
  exC : PySem.W.subIn K (.ref C) (.type "BaseException") = some true
  hdC : PySem.W.hasDictIn K C = true
  tyC : PySem.W.typeIn K (.ref C) = some (.type "type")
structure ErrC (K : PySem.W.Frag) (C : Addr) : Prop where
  ox : OexC K C
  xf : XfC K C
  hcl : (PySem.W.clsIn K C).isSome = true
  ha : PySem.W.findIn K (.ref C) "__class__" = some (some (.builtin "object.__class__"))
  hn : PySem.W.specialIn K (.builtin "object.__class__") "__get__" = some (some (.builtin "getset_descriptor.__get__"))
  ht : PySem.W.takesIn K (.builtin "object.__class__") = some true
  hm : PySem.W.mroIn K C (.type "object") = some true
section
variable {P : Program} {w : World} {K : PySem.W.Frag} {mg : Str → Option Value} {base : Heap}
theorem fnOk_byX {x qual : Str} {st : Stmt} {f : Addr} {fd : FuncData} {N Vs ps G : List Str} {k : Nat} {sp : Sp} (F : Fun K x qual st f fd) (S : FnScope N ps (defScope st)) (ok : okC (defScope st) Vs Vs G = true) (len : ∀ vs H Q E, sp vs H Q E → vs.length = ps.length)
    (hbody : ∀ X : Cx, X.prog = P → X.w = w → X.K = K → X.mg = mg → X.base = base → Ctx X (defScope st) N Vs Vs G k → Top X → ∀ (H : Hp) (vs : List V) (Q : VK) (E : XK), Takes X (fun cls d _ H' => E cls d H') → sp vs H Q E → XB X (defBody st) (fun _ H' => Q .non H') ⟨Q, fun _ _ => False, fun _ _ => False⟩ (st0 N vs) H) :
    FnOk P w K mg base (L2.CX P w) (k + 1) f fd ps sp := by
  refine F.okX S len (fun cdv A outer s H vs Q E hr h => ?_)
  have hl : vs.length ≤ N.length := by
    rw [len vs H Q E h]
    have := S.pre
    rw [← this, List.length_take]; exact Nat.min_le_right _ _
  rw [start_eq N vs hl]
  obtain ⟨t, h1, q⟩ := hbody (cxOf (L2.CX P w) P w K mg base N qual (defScope st) f cdv A outer s H E) rfl rfl rfl rfl rfl ⟨rfl, S.nd, rfl, ok, rfl, fun _ _ => rfl, passes_of rfl, S.kind, hr⟩ ⟨rfl, rfl, rfl⟩ H vs Q E (takes_of rfl rfl rfl rfl) h
  exact ⟨t, h1, q⟩
theorem fnOk_byT {x qual : Str} {st : Stmt} {f : Addr} {fd : FuncData} {N Vs ps G : List Str} {k : Nat} {sp : Sp} (F : Fun K x qual st f fd) (S : FnScope N ps (defScope st)) (ok : okC (defScope st) Vs Vs G = true) (len : ∀ vs H Q E, sp vs H Q E → vs.length = ps.length)
    (hbody : ∀ X : Cx, X.prog = P → X.w = w → X.K = K → X.mg = mg → X.base = base → Ctx X (defScope st) N Vs Vs G k → Top X → ∀ (H : Hp) (vs : List V) (Q : VK) (E : XK), sp vs H Q E → XB X (defBody st) (fun _ H' => Q .non H') ⟨Q, fun _ _ => False, fun _ _ => False⟩ (st0 N vs) H) :
    FnOk P w K mg base CX0 (k + 1) f fd ps sp := by
  refine F.ok S len (fun cdv A outer s H vs Q E hr h => ?_)
  have hl : vs.length ≤ N.length := by
    rw [len vs H Q E h]
    have := S.pre
    rw [← this, List.length_take]; exact Nat.min_le_right _ _
  rw [start_eq N vs hl]
  obtain ⟨t, h1, q⟩ := hbody ((cxOf CX0 P w K mg base N qual (defScope st) f cdv A outer s H E).nox) rfl rfl rfl rfl rfl ⟨rfl, S.nd, rfl, ok, rfl, fun _ _ => rfl, PassesOwn.never, S.kind, hr⟩ ⟨rfl, rfl, rfl⟩ H vs Q E h
  exact ⟨t, h1, q⟩
theorem DefOk.byT {x qual : Str} {st : Stmt} {N Vs ps G : List Str} {k : Nat} {sp : Sp} (F : DefAt K mg x qual st ps) (S : FnScope N ps (defScope st)) (ok : okC (defScope st) Vs Vs G = true) (len : ∀ vs H Q E, sp vs H Q E → vs.length = ps.length)
    (hbody : ∀ X : Cx, X.prog = P → X.w = w → X.K = K → X.mg = mg → X.base = base → Ctx X (defScope st) N Vs Vs G k → Top X → ∀ (H : Hp) (vs : List V) (Q : VK) (E : XK), sp vs H Q E → XB X (defBody st) (fun _ H' => Q .non H') ⟨Q, fun _ _ => False, fun _ _ => False⟩ (st0 N vs) H) :
    DefOk P w K mg base x ps (k + 1) sp := by
  obtain ⟨f, fd, F, hm, hb⟩ := F.ex
  exact ⟨f, fd, fnOk_byT F S ok len hbody, hm, F.kp, hb⟩
/-- a def of the module that may raise -/
structure DefOkX (P : Program) (w : World) (K : PySem.W.Frag) (mg : Str → Option Value) (base : Heap) (x : Str) (ps : List Str) (k : Nat) (sp : Sp) : Prop where
  ex : ∃ f fd, FnOk P w K mg base (L2.CX P w) k f fd ps sp ∧ mg x = some (.ref f) ∧ PySem.W.keepIn K (.ref f) = true ∧ Binds K fd ps []
theorem DefOkX.by {x qual : Str} {st : Stmt} {N Vs ps G : List Str} {k : Nat} {sp : Sp} (F : DefAt K mg x qual st ps) (S : FnScope N ps (defScope st)) (ok : okC (defScope st) Vs Vs G = true) (len : ∀ vs H Q E, sp vs H Q E → vs.length = ps.length)
    (hbody : ∀ X : Cx, X.prog = P → X.w = w → X.K = K → X.mg = mg → X.base = base → Ctx X (defScope st) N Vs Vs G k → Top X → ∀ (H : Hp) (vs : List V) (Q : VK) (E : XK), Takes X (fun cls d _ H' => E cls d H') → sp vs H Q E → XB X (defBody st) (fun _ H' => Q .non H') ⟨Q, fun _ _ => False, fun _ _ => False⟩ (st0 N vs) H) :
    DefOkX P w K mg base x ps (k + 1) sp := by
  obtain ⟨f, fd, F, hm, hb⟩ := F.ex
  exact ⟨f, fd, fnOk_byX F S ok len hbody, hm, F.kp, hb⟩
/-- a method that may raise -/
structure MetOkX (P : Program) (w : World) (K : PySem.W.Frag) (mg : Str → Option Value) (base : Heap) (Cl : Addr) (m : Str) (ps : List Str) (k : Nat) (sp : Sp) : Prop where
  ex : ∃ f fd, FnOk P w K mg base (L2.CX P w) k f fd ps sp ∧ Meth K Cl m f ∧ Binds K fd ps []
/-- an exception class with its own __init__ -/
structure ErrOk (P : Program) (w : World) (K : PySem.W.Frag) (mg : Str → Option Value) (base : Heap) (x : Str) (C : Addr) (ps : List Str) (k : Nat) (sp : Sp) : Prop where
  ex : ∃ f fd, FnOk P w K mg base CX0 k f fd ps sp ∧ mg x = some (.ref C) ∧ PySem.W.findIn K (.ref C) "__init__" = some (some (.ref f)) ∧ PySem.W.typeIn K (.ref f) = some (.type "function") ∧ Binds K fd ps []
end
section
variable {X : Cx} {σ σ' : St} {H : Hp} {Q : VK} {N Vs Ls G : List Str} {k k' : Nat} {sc : Scope} {a b e o : Expr} {es : List Expr} {pos p1 p2 p3 p4 apos : Pos} {nx : St → Hp → Prop} {D : B3} {W : WX} {x m : Str} {ps : List Str} {sp : Sp} {Cl : Addr}
theorem xe_callX (C : Ctx X sc N Vs Ls G k) (F : DefOkX X.prog X.w X.K X.mg X.base x ps k' sp) (tk : Takes X W) (hg : Mem G x) (hk : k' ≤ k) (h : XA X (a :: es) σ H fun vs H1 => sp vs H1 Q (fun cls d H' => W cls d σ H'))
    (hdb : (x == ("__debug__" : Str)) = false := by decide) (he : starEach (a :: es) X.env = (false, eval a X.env) :: starEach es X.env := by rfl) (hpl : (backTo pos (starEach es X.env)).any (·.1) = false := by rfl) : XE X (.Call (.Name x p1) (a :: es) [] pos) σ H Q := by
  obtain ⟨f, fd, F, hm, kp, b⟩ := F.ex
  exact ⟨_, pe_callS F (C.room.mono hk) (C.gl hg) hm kp b (fun σ => passAt tk σ) XA.pa hdb he hpl, h⟩
def tMethS (C : Addr) (m : Str) (sp : Sp) (E : St → XK) (ta : TE) (t : TA) : TE := fun σ H Q => ta σ H fun x H1 => ∃ a dx fs, x = .ref a ∧ H1 a = some (.ins C dx fs) ∧ List.lookup m fs = none ∧ t σ H1 fun vs H2 => sp (x :: vs) H2 Q (E σ)
theorem pe_methE {CX : CXT} {f : Addr} {fd : FuncData} {E : St → XK} {ta : TE} {t : TA} {pl : Sem Bool} (he : PE X o ta) (c : Cls X.K Cl) (hm : Meth X.K Cl m f) (F : FnOk X.prog X.w X.K X.mg X.base CX k f fd ps sp) (hr : Room k X.A) (hb : Binds X.K fd ps []) (hx : ∀ σ, PassesAt CX X σ (E σ)) (ha : PA X (e :: es) t)
    (hst : starEach (e :: es) X.env = (false, eval e X.env) :: starEach es X.env := by rfl) (hpl : (backTo pos (starEach es X.env)).any (·.1) = false := by rfl)
    (ht : eval (.Call (.Attribute o m apos) (e :: es) [] pos) X.env = (do
      let ov ← eval o X.env
      standAt apos.atName
      let (f, first) ← holding [ov] (getMethod ov m pl)
      callWith pos f first (backTo pos (starEach (e :: es) X.env)) (backToKw pos (keywordEach [] X.env))) := by rfl) :
    PE X (.Call (.Attribute o m apos) (e :: es) [] pos) (tMethS Cl m sp E ta t) := by
  refine ⟨fun pins s σ H Q I h => ?_⟩
  refine PySem.W.methodCall_KW (pl := pl) (thn (he.run pins s σ H _ I h) fun u s1 ⟨x, H1, I1, rx, a, dx, fs, ex, ea, l, q⟩ => ?_) ht
  subst ex
  obtain rfl : u = Value.ref a := rx
  refine getmeth_ok I1 ea c hm l ?_
  refine PySem.W.callWith_K (first := [.ref a]) (h₀ := X.base) I.ok.mod.kin hm.kp (thn (ha.run pos pins s1 σ H1 _ I1 q) fun us s2 ⟨vs, H2, I2, r, q2⟩ => ⟨I2.kIn, ?_⟩) hst hpl
  exact run_fnS (us := .ref a :: us) (vs := .ref a :: vs) F hr hb (hx σ) I2 (.cons rfl r) q2
theorem xe_methX {pl : Sem Bool} (C : Ctx X sc N Vs Ls G k) (F : MetOkX X.prog X.w X.K X.mg X.base Cl m ps k' sp) (tk : Takes X W) (cl : Cls X.K Cl) (hk : k' ≤ k)
    (h : XE X o σ H fun x H1 => ∃ a dx fs, x = .ref a ∧ H1 a = some (.ins Cl dx fs) ∧ List.lookup m fs = none ∧ XA X (e :: es) σ H1 fun vs H2 => sp (x :: vs) H2 Q (fun cls d H' => W cls d σ H'))
    (hpl : (backTo pos (starEach es X.env)).any (·.1) = false := by rfl)
    (hst : starEach (e :: es) X.env = (false, eval e X.env) :: starEach es X.env := by rfl)
    (hcall : eval (.Call (.Attribute o m apos) (e :: es) [] pos) X.env = (do
      let obj ← eval o X.env
      standAt apos.atName
      let (g, who) ← holding [obj] (getMethod obj m pl)
      callWith pos g who (backTo pos (starEach (e :: es) X.env)) (backToKw pos (keywordEach [] X.env))) := by rfl) : XE X (.Call (.Attribute o m apos) (e :: es) [] pos) σ H Q := by
  obtain ⟨f, fd, F, M, b⟩ := F.ex
  exact ⟨_, pe_methE XE.pe cl M F (C.room.mono hk) b (fun σ => passAt tk σ) XA.pa hst hpl hcall, h⟩
/-! raise -/
theorem kp_made {H1 : Hp} {a d : Addr} {oa oa' od od2 : HO} (ha : H1 a = none) (hd : H1 d = none) : Kp [] H1 (upd (L2.del (upd (upd (upd H1 a oa) d od) a oa') a) d od2) := by
  have ne : ∀ q u, H1 q = some u → q ≠ a ∧ q ≠ d := fun q u h => ⟨fun e => (by rw [e, ha] at h; cases h), fun e => (by rw [e, hd] at h; cases h)⟩
  have k : ∀ q u, H1 q = some u → upd (L2.del (upd (upd (upd H1 a oa) d od) a oa') a) d od2 q = some u := fun q u h => by
    obtain ⟨n1, n2⟩ := ne q u h
    rw [upd_ne n2, del_ne n1, upd_ne n1, upd_ne n2, upd_ne n1]; exact h
  refine ⟨fun q u _ h => k q u h, fun q xs h => k q _ h, fun q o u h => k q _ h, fun q h => ?_⟩
  cases hq : H1 q with
  | none => rfl
  | some u => rw [k q u hq] at h; cases h
/-- the promise of an __init__ that stores one field -/
def sp_err1 (C : Addr) (f : Str) : Sp := fun vs H Q _ => ∃ (a : Addr) (v : V), vs = [.ref a, v] ∧ H a = some (exo a C none) ∧ ∀ dx, H dx = none → dx ≠ a → Q .non (upd (upd H dx (exd dx [(f, v)])) a (exo a C (some dx)))
theorem xs_raise1 {C : Addr} {f : Str} (Cc : Ctx X sc N Vs Ls G k) (F : ErrOk X.prog X.w X.K X.mg X.base x C ps k' (sp_err1 C f)) (E : ErrC X.K C) (tk : Takes X W) (hg : Mem G x) (hk : k' + 1 ≤ k)
    (h : XE X a σ H fun v H1 => ∀ d H', Kp [] H1 H' → H1 d = none → H' d = some (.xd [(f, v)]) → W (.ref C) (some d) σ H')
    (hdb : (x == ("__debug__" : Str)) = false := by decide) (he : starEach (a :: []) X.env = (false, eval a X.env) :: starEach [] X.env := by rfl) (hpl : (backTo p2 (starEach [] X.env)).any (·.1) = false := by rfl) :
    XS X (.Raise (some (.Call (.Name x p1) [a] [] p2)) none pos) nx D σ H := by
  obtain ⟨fI, fd, F, hm, iC, tI, b⟩ := F.ex
  refine ⟨_, ps_raise Cc.calm tk (pmk_oex E.ox iC tI F (Cc.room.mono hk) b .nil pass0 (Cc.gl hg) hm XA.pa hdb he hpl), ?_⟩
  refine xa_cons (hs := he) (XE.mono h fun v H1 q => xa_nil ⟨by simp, fun a ha => ?_⟩)
  refine ⟨a, v, rfl, upd_same, fun dx hdx ne => ⟨rfl, dx, [(f, v)], upd_same, by rw [upd_ne ne]; exact upd_same, by rw [upd_ne ne] at hdx; exact hdx, ?_⟩⟩
  rw [upd_ne ne] at hdx
  exact q dx _ (kp_made ha hdx) hdx upd_same
/-- the promise of an __init__ that stores two fields -/
def sp_err2 (C : Addr) (f g : Str) : Sp := fun vs H Q _ => ∃ (a : Addr) (v u : V), vs = [.ref a, v, u] ∧ H a = some (exo a C none) ∧ ∀ dx, H dx = none → dx ≠ a → Q .non (upd (upd (upd H dx (exd dx [(f, v)])) a (exo a C (some dx))) dx (exd dx [(g, u), (f, v)]))
theorem kp_made2 {H1 : Hp} {a d : Addr} {oa oa' od od' od2 : HO} (ha : H1 a = none) (hd : H1 d = none) : Kp [] H1 (upd (L2.del (upd (upd (upd (upd H1 a oa) d od) a oa') d od') a) d od2) := by
  have ne : ∀ q u, H1 q = some u → q ≠ a ∧ q ≠ d := fun q u h => ⟨fun e => (by rw [e, ha] at h; cases h), fun e => (by rw [e, hd] at h; cases h)⟩
  have k : ∀ q u, H1 q = some u → upd (L2.del (upd (upd (upd (upd H1 a oa) d od) a oa') d od') a) d od2 q = some u := fun q u h => by
    obtain ⟨n1, n2⟩ := ne q u h
    rw [upd_ne n2, del_ne n1, upd_ne n2, upd_ne n1, upd_ne n2, upd_ne n1]; exact h
  refine ⟨fun q u _ h => k q u h, fun q xs h => k q _ h, fun q o u h => k q _ h, fun q h => ?_⟩
  cases hq : H1 q with
  | none => rfl
  | some u => rw [k q u hq] at h; cases h
theorem xs_raise2 {C : Addr} {f g : Str} (Cc : Ctx X sc N Vs Ls G k) (F : ErrOk X.prog X.w X.K X.mg X.base x C ps k' (sp_err2 C f g)) (E : ErrC X.K C) (tk : Takes X W) (hg : Mem G x) (hk : k' + 1 ≤ k)
    (h : XE X a σ H fun v H0 => XE X b σ H0 fun u H1 => ∀ d H', Kp [] H1 H' → H1 d = none → H' d = some (.xd [(g, u), (f, v)]) → W (.ref C) (some d) σ H')
    (hdb : (x == ("__debug__" : Str)) = false := by decide) (he : starEach (a :: [b]) X.env = (false, eval a X.env) :: starEach [b] X.env := by rfl) (he2 : starEach (b :: []) X.env = (false, eval b X.env) :: starEach [] X.env := by rfl) (hpl : (backTo p2 (starEach [b] X.env)).any (·.1) = false := by rfl) :
    XS X (.Raise (some (.Call (.Name x p1) [a, b] [] p2)) none pos) nx D σ H := by
  obtain ⟨fI, fd, F, hm, iC, tI, b⟩ := F.ex
  refine ⟨_, ps_raise Cc.calm tk (pmk_oex E.ox iC tI F (Cc.room.mono hk) b .nil pass0 (Cc.gl hg) hm XA.pa hdb he hpl), ?_⟩
  refine xa_cons (hs := he) (XE.mono h fun v H0 q => xa_cons (hs := he2) (XE.mono q fun u H1 q => xa_nil ⟨by simp, fun a ha => ?_⟩))
  refine ⟨a, v, u, rfl, upd_same, fun dx hdx ne => ⟨rfl, dx, [(g, u), (f, v)], by rw [upd_ne (Ne.symm ne)]; exact upd_same, upd_same, by rw [upd_ne ne] at hdx; exact hdx, ?_⟩⟩
  rw [upd_ne ne] at hdx
  exact q dx _ (kp_made2 (od' := exd dx [(g, u), (f, v)]) ha hdx) hdx upd_same
/-- self.f = y in an exception's __init__ -/
theorem xs_ost {f : Str} (h : XE X e σ H fun y H1 => XE X o σ H1 fun x H2 => ∃ a C : Addr, x = .ref a ∧ OexC X.K C ∧ PySem.W.findIn X.K (.ref C) f = some none ∧
  ((H2 a = some (exo a C none) ∧ ∀ dx, H2 dx = none → dx ≠ a → nx σ (upd (upd H2 dx (exd dx [(f, y)])) a (exo a C (some dx)))) ∨
    ∃ (dx : Addr) (fs : List (Str × V)), H2 a = some (exo a C (some dx)) ∧ H2 dx = some (exd dx fs) ∧ fs.length ≤ 900 ∧ nx σ (upd H2 dx (exd dx ((f, y) :: fs)))))
    (hs : swapsWith e (some (.Attribute o f p1)) pos.line X.env = pure false := by rfl) : XS X (.Assign [.Attribute o f p1] e pos) nx D σ H := ⟨_, ps_ost XE.pe XE.pe hs, h⟩
/-! try .. except x as n -/
theorem ctx_tr (C : Ctx X sc N Vs Ls G k) {pn : List (Addr × Obj)} {xe : Value → Shared → Prop} (po : PassesOwn (model X.prog X.w) X.A X.env xe) : Ctx (X.tr pn xe) sc N Vs Ls G k := ⟨C.hN, C.nd, C.esc, C.ok, C.calm, C.fn, po, C.knd, C.room⟩
theorem wp_nil {σ : St} {n : Str} {i : Nat} {v : V} (hi : N[i]? = some n) (nd : N.Nodup) (h : Put N σ n v σ') : σ.set i (some v) = σ' := by
  obtain ⟨j, hj, e⟩ := h.ix
  have ij : i = j := nd_ix nd hi hj
  subst ij; exact e
theorem xs_tryAs {n : Str} {c : Value} {Wout : WX} {body suite : List Stmt} {b₀ : Stmt} {np pos' : Pos} (C : Ctx X sc N Vs Ls G k) (Tp : Top X) (hn : Mem N n) (hln : sc.names.lookup n = some .local) (hgx : Mem G x) (hdx : (x == ("__debug__" : Str)) = false) (hmx : X.mg x = some c) (tk : Takes X Wout)
    (h : ∀ (pn : List (Addr × Obj)) (xe : Value → Shared → Prop) (W : WX), Takes (X.tr pn xe) W → Ctx (X.tr pn xe) sc N Vs Ls G k →
      (∀ (cls : Value) (d : Option Addr) (σ1 : St) (H1 : Hp), (PySem.W.exmOne X.K cls c = some true ∧ ∀ (a : Addr) (oe : Obj) (pn' : List (Addr × Obj)) (i : Nat), N[i]? = some n → H1 a = none → Zc cls d oe → (∃ vs, oe.data = .fields vs) → XB (X.suite a ((a, oe) :: pn')) (b₀ :: suite) (fun σ' H' => nx (σ'.set i none) H') ⟨D.rt, fun σ' H' => D.bk (σ'.set i none) H', fun σ' H' => D.ct (σ'.set i none) H'⟩ (σ1.set i (some (.ref a))) H1) → W cls d σ1 H1) →
      XB (X.tr pn xe) body nx D σ H) :
    XS X (.Try body [.ExceptHandler (some (.Name x np)) (some n) (b₀ :: suite) pos'] [] [] pos) nx D σ H := by
  have hn' := hn.mem
  obtain ⟨i, hi⟩ := List.getElem?_of_mem hn'
  have hln' : X.env.kindOf n = some .local := by
    show X.env.scope.names.lookup n = _
    rw [C.esc]; exact hln
  have nd : X.N.Nodup := by rw [C.hN]; exact C.nd
  let tb : WX → TS := fun W D σ H => ∀ (pn : List (Addr × Obj)) (xe : Value → Shared → Prop), Takes (X.tr pn xe) W → PassesOwn (model X.prog X.w) X.A X.env xe → XB (X.tr pn xe) body D.nx ⟨D.rt, D.bk, D.ct⟩ σ H
  let ts : Addr → Value → Option Addr → TS := fun a cls d D σ H => ∀ (oe : Obj) (pn : List (Addr × Obj)), Zc cls d oe → (∃ vs, oe.data = .fields vs) → XB (X.suite a ((a, oe) :: pn)) (b₀ :: suite) D.nx ⟨D.rt, D.bk, D.ct⟩ σ H
  refine ⟨_, ps_try_as (tb := tb) (ts := ts) Tp.hs Tp.hf nd (i := i) (by rw [C.hN]; exact hi) hln' ⟨C.gl hgx, hdx, .inl hmx⟩ tk (fun W pn xe t po => ?_) (fun a oe cls d pn hz hf => ?_), ?_⟩
  · exact ⟨fun pins s σ H D I h => (XB.ps).run pins s σ H D I (h pn xe t po)⟩
  · exact ⟨fun pins s σ H D I h => (XB.ps).run pins s σ H D I (h oe pn hz hf)⟩
  · intro pn xe t po
    refine h pn xe _ t (ctx_tr C po) (fun cls d σ1 H1 ⟨hm, hq⟩ => ⟨true, hm, fun _ a ha oe pn' hz hf => hq a oe pn' i hi ha hz hf, fun z => nomatch z⟩)
theorem exm_of {C cls : Addr} {b : Bool} {K : PySem.W.Frag} (B : ErrB K C) (h : PySem.W.subIn K (.ref cls) (.ref C) = some b) : PySem.W.exmOne K (.ref cls) (.ref C) = some b := PySem.W.exm_ref B.exC B.hdC B.tyC h
/-! in the suite of an except clause -/
section
variable {ea : Addr} {oe : Obj} {pn : List (Addr × Obj)} {cls : Value} {d : Option Addr} {v : V}
theorem xe_varH (C : Ctx X sc N Vs Ls G k) (hv : Mem Vs x) (h : At N σ x v) (q : Q v H) (hd : (x == ("__debug__" : Str)) = false := by decide) (hcd : (x == ("__classdict__" : Str)) = false := by decide) : XE (X.suite ea pn) (.Name x pos) σ H Q := by
  obtain ⟨i, h1, h2⟩ := h.ix
  exact ⟨_, pe_var (X := X.suite ea pn) (i := i) (by show X.N[i]? = _; rw [C.hN]; exact h1) (C.vis hv) hd hcd, v, h2, q⟩
/-- the caught exception itself -/
theorem xe_excH {n : Str} {i : Nat} {p : Addr} (C : Ctx X sc N Vs Ls G k) (hv : Mem Vs n) (hi : N[i]? = some n) (hl : i < σ.length) (q : Q (.ref p) H) (hd : (n == ("__debug__" : Str)) = false := by decide) (hcd : (n == ("__classdict__" : Str)) = false := by decide) : XE (X.suite ea pn) (.Name n pos) (σ.set i (some (.ref p))) H Q :=
  ⟨_, pe_var (X := X.suite ea pn) (i := i) (by show X.N[i]? = _; rw [C.hN]; exact hi) (C.vis hv) hd hcd, .ref p, by simp [hl], q⟩
theorem call_isX {Dc : Addr} (E : ErrC X.K Dc) (hz : Zc (.ref Dc) d oe) (hf : ∃ vs, oe.data = .fields vs) : CallR (X.suite ea ((ea, oe) :: pn)) (.builtin "isinstance") (fun xs H Q => ∃ (c : V) (cv : Value) (b : Bool) (dd : Addr) (fs : List (Str × V)), xs = [.ref ea, c] ∧ (∀ u, RelV c u → u = cv) ∧ PySem.W.kitOne X.K (.ref Dc) cv = some b ∧ d = some dd ∧ H dd = some (.xd fs) ∧ Q (.bl b) H) := by
  intro pins s σ H xs us Q I r h
  obtain ⟨c, cv, b, dd, fs, rfl, hcv, e, ed, hdd, q⟩ := h
  subst ed
  cases r with
  | cons rx rr =>
    cases rr with
    | cons rt rr =>
      cases rr
      cases rx
      have ec := hcv _ rt
      subst ec
      obtain ⟨hget, _⟩ := I.pin (ea, oe) (List.mem_append.mpr (.inl List.mem_cons_self))
      obtain ⟨vs, hv⟩ := hf
      have hx : ObjOk X.prog X.w H s.heap dd (.xd fs) := I.hok dd _ hdd
      obtain ⟨mA, hns, hr⟩ := hx
      obtain ⟨od, ho, hl⟩ := lookIn_ns hns
      have J : PySem.W.InstAt s.heap ea oe Dc (some od) := ⟨hget, hz.1, by unfold PySem.W.notCls; rw [hv] <;> rfl, by rw [hz.2]; exact ho⟩
      exact PySem.W.kia_one (PySem.W.kitx_exc E.hcl E.xf.ga E.xf.gg E.xf.exC E.ha E.hn E.ht E.hm) I.kIn J e (fun z => nomatch z) fun tk => ⟨.bl b, H, I.kept (t' := tk) fun _ _ z => z, rfl, q⟩
theorem xe_isH {n cn : Str} {i : Nat} {Dc D2 dd : Addr} {fs : List (Str × V)} {bb : Bool} (C : Ctx X sc N Vs Ls G k) (E : ErrC X.K Dc) (hz : Zc (.ref Dc) (some dd) oe) (hf : ∃ vs, oe.data = .fields vs) (hg : Mem G "isinstance") (hm : X.mg "isinstance" = none) (hgc : Mem G cn) (mgc : X.mg cn = some (.ref D2)) (he : PySem.W.kitOne X.K (.ref Dc) (.ref D2) = some bb) (hv : Mem Vs n) (hi : N[i]? = some n) (hl : i < σ.length) (hdd : H dd = some (.xd fs)) (q : Q (.bl bb) H)
    (hd : (n == ("__debug__" : Str)) = false := by decide) (hcd : (n == ("__classdict__" : Str)) = false := by decide) (hdc : (cn == ("__debug__" : Str)) = false := by decide) : XE (X.suite ea ((ea, oe) :: pn)) (.Call (.Name "isinstance" p1) [.Name n p2, .Name cn p3] [] pos) (σ.set i (some (.ref ea))) H Q := by
  have gl : ∀ {y : Str}, Mem G y → Gl (X.suite ea ((ea, oe) :: pn)) y := fun h => C.gl h
  refine ⟨_, pe_callB (X := X.suite ea ((ea, oe) :: pn)) (call_isX E hz hf) (gl hg) hm PyProof.Rows.boot_isinstance XA.pa (by decide) (by decide) (by rfl) (by rfl), ?_⟩
  refine xa_cons (hs := by rfl) (xe_excH C hv hi hl ?_ hd hcd)
  refine xa_cons (hs := by rfl) ?_
  refine ⟨_, pe_glob (X := X.suite ea ((ea, oe) :: pn)) (v := .ref D2) (gl hgc) mgc rfl hdc, xa_nil ⟨.ref D2, .ref D2, bb, dd, fs, rfl, fun u h => h, he, rfl, hdd, q⟩⟩
theorem xe_xfH {n f : Str} {i : Nat} {Dc dd : Addr} {fs : List (Str × V)} (C : Ctx X sc N Vs Ls G k) (E : ErrC X.K Dc) (hno : PySem.W.findIn X.K (.ref Dc) f = some none) (hz : Zc (.ref Dc) (some dd) oe) (hf : ∃ vs, oe.data = .fields vs) (hv : Mem Vs n) (hi : N[i]? = some n) (hl : i < σ.length) (hdd : H dd = some (.xd fs)) (hlk : fs.lookup f = some v) (q : Q v H)
    (hd : (n == ("__debug__" : Str)) = false := by decide) (hcd : (n == ("__classdict__" : Str)) = false := by decide) (hb : attributeBase (.Name n p1) f X.env (eval (.Name n p1) X.env) = eval (.Name n p1) X.env := by rfl) : XE (X.suite ea ((ea, oe) :: pn)) (.Attribute (.Name n p1) f pos) (σ.set i (some (.ref ea))) H Q :=
  ⟨_, pe_xf (X := X) E.xf hno hz hf (XE.pe) hb, xe_excH C hv hi hl ⟨rfl, rfl, dd, fs, v, rfl, hdd, hlk, q⟩ hd hcd⟩
end
end
/-! what the top leaves -/
structure Txt (P : Program) (w : World) (K : PySem.W.Frag) (mg : Str → Option Value) (base : Heap) where
  b_abs : mg "abs" = none
  b_enumerate : mg "enumerate" = none
  b_int : mg "int" = none
  b_isinstance : mg "isinstance" = none
  b_len : mg "len" = none
  b_list : mg "list" = none
  b_range : mg "range" = none
  b_tuple : mg "tuple" = none
  b_zip : mg "zip" = none
  c_PRIME : ∃ t, mg "PRIME" = some (.int 2305843009213693951 t)
  c_BEACON : ∃ t, mg "BEACON" = some (.int 1 t)
  c_DOCUMENT : ∃ t, mg "DOCUMENT" = some (.int 2 t)
  c_HEAD : ∃ t, mg "HEAD" = some (.int 4 t)
  c_RENEWAL : ∃ t, mg "RENEWAL" = some (.int 5 t)
  c_NODE : ∃ t, mg "NODE" = some (.int 3 t)
  c_CITE : ∃ t, mg "CITE" = some (.str "cite" t)
  c_BACK : ∃ t, mg "BACK" = some (.str "back" t)
  c_ENTRY : ∃ t, mg "ENTRY" = some (.str "entry" t)
  E_SealError : Addr
  mg_SealError : mg "SealError" = some (.ref E_SealError)
  eb_SealError : ErrB K E_SealError
  E_ThingError : Addr
  mg_ThingError : mg "ThingError" = some (.ref E_ThingError)
  eb_ThingError : ErrB K E_ThingError
  nf_ThingError_reason : PySem.W.findIn K (.ref E_ThingError) "reason" = some none
  ec_ThingError : ErrC K E_ThingError
  i_ThingError : ∃ f fd, PySem.W.findIn K (.ref E_ThingError) "__init__" = some (some (.ref f)) ∧ PySem.W.typeIn K (.ref f) = some (.type "function") ∧ Fun K "__init__" "ThingError.__init__" s_ThingError___init__ f fd ∧ Binds K fd ["self", "reason"] []
  up_ThingError_ThingError : PySem.W.subIn K (.ref E_ThingError) (.ref E_ThingError) = some true
  up_ThingError_SealError : PySem.W.subIn K (.ref E_ThingError) (.ref E_SealError) = some true
  d_digest : DefAt K mg "digest" "digest" s_digest ["mixing", "row"]
  d__mixed : DefAt K mg "_mixed" "_mixed" s__mixed ["mixing", "state", "number"]
  d_digest_of : DefAt K mg "digest_of" "digest_of" s_digest_of ["mixing", "row"]
  d_is_thing : DefAt K mg "is_thing" "is_thing" s_is_thing ["row"]
  d__is_document : DefAt K mg "_is_document" "_is_document" s__is_document ["row"]
  d__is_head : DefAt K mg "_is_head" "_is_head" s__is_head ["row"]
  d_kind_of : DefAt K mg "kind_of" "kind_of" s_kind_of ["row"]
  d__back_count : DefAt K mg "_back_count" "_back_count" s__back_count ["number"]
  d__greatest_step : DefAt K mg "_greatest_step" "_greatest_step" s__greatest_step ["number"]
  d__first_count : DefAt K mg "_first_count" "_first_count" s__first_count ["count"]
  d_root_of : DefAt K mg "root_of" "root_of" s_root_of ["mixing", "entries"]
  d__root_and_nodes : DefAt K mg "_root_and_nodes" "_root_and_nodes" s__root_and_nodes ["mixing", "entries"]
  d_way_of : DefAt K mg "way_of" "way_of" s_way_of ["mixing", "entries", "index"]
  d_turns : DefAt K mg "turns" "turns" s_turns ["count", "index"]
  d__nodes_up : DefAt K mg "_nodes_up" "_nodes_up" s__nodes_up ["mixing", "count", "index", "entry", "way"]
  d_clash_of_ways : DefAt K mg "clash_of_ways" "clash_of_ways" s_clash_of_ways ["mixing", "count", "index", "one", "two"]
  d_clash_of_entries : DefAt K mg "clash_of_entries" "clash_of_entries" s_clash_of_entries ["mixing", "one", "two"]
  d__first_difference : DefAt K mg "_first_difference" "_first_difference" s__first_difference ["one_nodes", "two_nodes"]
  d_listed : DefAt K mg "listed" "listed" s_listed ["row", "word"]
  d_rows_of : DefAt K mg "rows_of" "rows_of" s_rows_of ["paper"]
  d_trace : DefAt K mg "trace" "trace" s_trace ["library", "paper"]
  d__clash_at : DefAt K mg "_clash_at" "_clash_at" s__clash_at ["library", "before", "row", "place"]
  d__clash_in_tree : DefAt K mg "_clash_in_tree" "_clash_in_tree" s__clash_in_tree ["library", "mark", "row", "place"]
  d__are_entries : DefAt K mg "_are_entries" "_are_entries" s__are_entries ["mixing", "row", "entries"]
  d__law_cell : DefAt K mg "_law_cell" "_law_cell" s__law_cell ["script", "k"]
  d__law_row : DefAt K mg "_law_row" "_law_row" s__law_row ["script", "first", "last"]
  d__law_draw : DefAt K mg "_law_draw" "_law_draw" s__law_draw ["box", "many"]
  d__law_digest : DefAt K mg "_law_digest" "_law_digest" s__law_digest ["m", "row"]
  d__law_number : DefAt K mg "_law_number" "_law_number" s__law_number ["box"]
  d__law_mixing : DefAt K mg "_law_mixing" "_law_mixing" s__law_mixing ["box"]
  d__law_backs : DefAt K mg "_law_backs" "_law_backs" s__law_backs ["number"]
  d__law_half : DefAt K mg "_law_half" "_law_half" s__law_half ["count"]
  d__law_root : DefAt K mg "_law_root" "_law_root" s__law_root ["m", "entries"]
  d__law_way : DefAt K mg "_law_way" "_law_way" s__law_way ["m", "entries", "index"]
  d__law_new_head : DefAt K mg "_law_new_head" "_law_new_head" s__law_new_head ["box", "world"]
  d__law_new_thing : DefAt K mg "_law_new_thing" "_law_new_thing" s__law_new_thing ["box", "world"]
  d__law_places : DefAt K mg "_law_places" "_law_places" s__law_places ["m", "row", "entries"]
  d__law_fits_back : DefAt K mg "_law_fits_back" "_law_fits_back" s__law_fits_back ["before", "row", "place"]
  d__law_ahead : DefAt K mg "_law_ahead" "_law_ahead" s__law_ahead ["world", "row"]
  d__law_walk : DefAt K mg "_law_walk" "_law_walk" s__law_walk ["box", "world", "row", "most"]
  d__law_small : DefAt K mg "_law_small" "_law_small" s__law_small ["box", "world"]
  d__law_made_world : DefAt K mg "_law_made_world" "_law_made_world" s__law_made_world ["box", "many"]
  d__law_closed : DefAt K mg "_law_closed" "_law_closed" s__law_closed ["world"]
  d__law_trace_ok : DefAt K mg "_law_trace_ok" "_law_trace_ok" s__law_trace_ok ["m", "known", "told", "paper"]
  d__law_put_all : DefAt K mg "_law_put_all" "_law_put_all" s__law_put_all ["library", "world", "rows"]
  C_Mixing : Addr
  cl_Mixing : Cls K C_Mixing
  mg_Mixing : mg "Mixing" = some (.ref C_Mixing)
  na_Mixing_bound : NoAttr K C_Mixing "bound"
  na_Mixing_factor : NoAttr K C_Mixing "factor"
  mk_Mixing : ∃ f fd, Mk K C_Mixing f ∧ Fun K "__init__" "Mixing.__init__" s_Mixing___init__ f fd ∧ Binds K fd ["self", "bound", "factor"] []
  C_Paper : Addr
  cl_Paper : Cls K C_Paper
  mg_Paper : mg "Paper" = some (.ref C_Paper)
  na_Paper_first : NoAttr K C_Paper "first"
  na_Paper_steps : NoAttr K C_Paper "steps"
  mk_Paper : ∃ f fd, Mk K C_Paper f ∧ Fun K "__init__" "Paper.__init__" s_Paper___init__ f fd ∧ Binds K fd ["self", "first", "steps"] []
  C_Library : Addr
  cl_Library : Cls K C_Library
  mg_Library : mg "Library" = some (.ref C_Library)
  na_Library__entries : NoAttr K C_Library "_entries"
  na_Library__rows : NoAttr K C_Library "_rows"
  na_Library_mixing : NoAttr K C_Library "mixing"
  mk_Library : ∃ f fd, Mk K C_Library f ∧ Fun K "__init__" "Library.__init__" s_Library___init__ f fd ∧ Binds K fd ["self", "mixing"] []
  m_Library_put : ∃ f fd, Meth K C_Library "put" f ∧ Fun K "put" "Library.put" s_Library_put f fd ∧ Binds K fd ["self", "row", "entries"] []
  m_Library_row_of : ∃ f fd, Meth K C_Library "row_of" f ∧ Fun K "row_of" "Library.row_of" s_Library_row_of f fd ∧ Binds K fd ["self", "digest"] []
  m_Library_entries_of : ∃ f fd, Meth K C_Library "entries_of" f ∧ Fun K "entries_of" "Library.entries_of" s_Library_entries_of f fd ∧ Binds K fd ["self", "digest"] []
  m_Library_rows : ∃ f fd, Meth K C_Library "rows" f ∧ Fun K "rows" "Library.rows" s_Library_rows f fd ∧ Binds K fd ["self"] []
  m_Library_gaps : ∃ f fd, Meth K C_Library "gaps" f ∧ Fun K "gaps" "Library.gaps" s_Library_gaps f fd ∧ Binds K fd ["self"] []
  m_Library_is_closed : ∃ f fd, Meth K C_Library "is_closed" f ∧ Fun K "is_closed" "Library.is_closed" s_Library_is_closed f fd ∧ Binds K fd ["self"] []
  m_Library__held_by : ∃ f fd, Meth K C_Library "_held_by" f ∧ Fun K "_held_by" "Library._held_by" s_Library__held_by f fd ∧ Binds K fd ["self", "mark"] []
variable {P : Program} {w : World} {mg : Str → Option Value} {base : Heap} {K : PySem.W.Frag}
local macro_rules | `(tactic| wtm_at "go") => `(tactic| (subst e1; subst e2; subst e3; subst e4; subst e5; simp only [st0]; refine Z.xb_cons ?_))
/-! box -/
/-- the drawing box at b: a list of the drawn row, at r, and the place -/
def Box (H : Hp) (b r : Addr) : Prop := ∃ (i : Int) (ns : List Int), H b = some (.lst [.ref r, .int i]) ∧ 0 ≤ i ∧ H r = some (.lst (ns.map V.int))
theorem noInts {r : V} {i : V} {x : Addr} (hr : r = .ref x) : ∀ ns : List Int, HO.lst [r, i] ≠ .lst (ns.map V.int) := by
  intro ns e
  have e2 : [r, i] = ns.map V.int := HO.lst.inj e
  cases ns with
  | nil => cases e2
  | cons n ns => rw [List.map_cons] at e2; rw [hr] at e2; exact nomatch (List.cons.inj e2).1
theorem Box.br {H : Hp} {b r : Addr} (h : Box H b r) : r ≠ b := by
  obtain ⟨i, ns, h1, h2, h3⟩ := h
  intro e
  rw [e, h1] at h3
  exact noInts rfl ns (Option.some.inj h3)
theorem Box.nl {H : Hp} {b r l : Addr} (h : Box H b r) (n : H l = none) : b ≠ l ∧ r ≠ l := by
  obtain ⟨i, ns, h1, h2, h3⟩ := h
  exact ⟨ne_of_none h1 n, ne_of_none h3 n⟩
theorem Box.kp {H H' : Hp} {b r : Addr} (h : Box H b r) (k : Kp [] H H') : Box H' b r := by
  obtain ⟨i, ns, h1, h2, h3⟩ := h
  exact ⟨i, ns, k.at0 h1, h2, k.at0 h3⟩
theorem Box.kp1 {H H' : Hp} {b r l : Addr} (h : Box H b r) (k : Kp [l] H H') (n : b ≠ l ∧ r ≠ l) : Box H' b r := by
  obtain ⟨i, ns, h1, h2, h3⟩ := h
  exact ⟨i, ns, k.at (by simpa using n.1) h1, h2, k.at (by simpa using n.2) h3⟩
/-- a list of ints is not what is changed, if that is no list of ints -/
theorem ints_kp {K : PySem.W.Frag} {H H' : Hp} {b r : Addr} {u : HO} {ns : List Int} (h : SqL K H r (ns.map V.int)) (hb : H b = some u) (hu : ∀ ns : List Int, u ≠ .lst (ns.map V.int)) (k : Kp [b] H H') : SqL K H' r (ns.map V.int) := by
  rcases h with (h | ⟨o, h⟩) | h
  · refine .inl (.inl (k.at (fun m => ?_) h))
    have e : r = b := by simpa using m
    subst e
    rw [hb] at h
    exact hu ns (Option.some.inj h)
  · exact .inl (.inr ⟨o, k.z _ _ _ h⟩)
  · exact .inr h
theorem Box.ints {K : PySem.W.Frag} {H H' : Hp} {b r s : Addr} {ns : List Int} (h : Box H b r) (k : Kp [b] H H') (hs : SqL K H s (ns.map V.int)) : SqL K H' s (ns.map V.int) := by
  obtain ⟨i, ms, h1, h2, h3⟩ := h
  exact ints_kp hs h1 (noInts rfl) k
/-- what is no list is not the box -/
theorem Box.other {H H' : Hp} {b r p : Addr} {o : HO} (h : Box H b r) (k : Kp [b] H H') (ho : ∀ xs, o ≠ .lst xs) (hp : H p = some o) : H' p = some o := by
  obtain ⟨i, ms, h1, h2, h3⟩ := h
  refine k.at1 (fun e => ?_) hp
  rw [e, h1] at hp
  exact ho _ (Option.some.inj hp).symm
/-- numbers drawn one after another into the list at L -/
def LcI (P : Int → Prop) (H0 : Hp) (b r L : Addr) (t : Nat) (H' : Hp) : Prop := (b ≠ L ∧ r ≠ L) ∧ Kp [b, L] H0 H' ∧ Box H' b r ∧ ∃ ns : List Int, H' L = some (.lst (ns.map V.int)) ∧ ns.length = t ∧ ∀ n ∈ ns, P n
theorem LcI.start {P : Int → Prop} {H H0 : Hp} {b r L : Addr} (b0 : Box H b r) (k : Kp [] H H0) (n : H L = none) (e : H0 L = some (.lst [])) : LcI P H0 b r L 0 H0 := ⟨b0.nl n, Kp.refl _ _, b0.kp k, [], e, rfl, fun _ m => nomatch m⟩
theorem LcI.sz {P : Int → Prop} {H0 H8 H9 : Hp} {b r L : Addr} {t : Nat} (h : LcI P H0 b r L t H8) (ht : t < 100000) (k9 : Kp [b] H8 H9) : ∃ acc, H9 L = some (.lst acc) ∧ acc.length < sizeLine ∧ ∃ ns : List Int, acc = ns.map V.int ∧ H8 L = some (.lst (ns.map V.int)) ∧ ns.length = t ∧ ∀ n ∈ ns, P n := by
  obtain ⟨n, k, b8, ns, e, hl, hp⟩ := h
  exact ⟨_, k9.at1 n.1.symm e, szl (by rw [List.length_map]; omega), ns, rfl, e, hl, hp⟩
theorem LcI.push {P : Int → Prop} {H0 H8 H9 H10 : Hp} {b r L : Addr} {t : Nat} {ns : List Int} {d : Int} (h : LcI P H0 b r L t H8) (hl : ns.length = t) (hp : ∀ n ∈ ns, P n) (k9 : Kp [b] H8 H9) (b9 : Box H9 b r) (hd : P d) (k10 : Kp [L] H9 H10) (e : H10 L = some (.lst (ns.map V.int ++ [.int d]))) : LcI P H0 b r L (t + 1) H10 := by
  obtain ⟨n, k, _⟩ := h
  refine ⟨n, (k.tr1 k9 (.inl (by simp))).tr1 k10 (.inl (by simp)), b9.kp1 k10 n, ns ++ [d], by rw [e, List.map_append]; rfl, by simp [hl], fun m hm => ?_⟩
  rcases List.mem_append.mp hm with z | z
  · exact hp m z
  · rw [List.mem_singleton.mp z]; exact hd
theorem LcI.kp {P : Int → Prop} {H H0 H' : Hp} {b r L : Addr} {t : Nat} (h : LcI P H0 b r L t H') (k : Kp [] H H0) (n : H L = none) : Kp [b] H H' :=
  (k.wk (B := [b]) fun _ m => nomatch m).tr h.2.1 fun l m => by
    rcases List.mem_cons.mp m with z | z
    · exact .inl (by simp [z])
    · rw [List.mem_singleton.mp z]; exact .inr n
theorem Box.neInts {H : Hp} {b r e : Addr} {ns : List Int} (bx : Box H b r) (h : H e = some (.lst (ns.map V.int))) : e ≠ b := by
  obtain ⟨i, ms, h1, _, _⟩ := bx
  intro q
  rw [q, h1] at h
  exact noInts rfl ns (Option.some.inj h)
/-- facts that stand while the box is drawn from -/
class CarB (b r : Addr) (H H' : Hp) (P : Prop) (P' : outParam Prop) : Prop where
  kp : Box H b r → Kp [b] H H' → P → P'
theorem carB {b r : Addr} {H H' : Hp} {P P' : Prop} [c : CarB b r H H' P P'] (bx : Box H b r) (k : Kp [b] H H') (h : P) : P' := c.kp bx k h
/-- not the box -/
class Nb (p b : Addr) : Prop where
  ne : p ≠ b
section
variable {H H' : Hp} {b r : Addr}
instance : Car H H' (Box H b r) (Box H' b r) := ⟨fun k n ⟨i, ns, h1, h2, h3⟩ => ⟨i, ns, k.atN n h1, h2, k.atN n h3⟩⟩
instance {K : PySem.W.Frag} {p : Addr} {xs : List V} : CarB b r H H' (SqT K H p xs) (SqT K H' p xs) := ⟨fun _ k h => k.tup h⟩
instance {p : Addr} {xs : List V} : CarB b r H H' (H p = some (.tup xs)) (H' p = some (.tup xs)) := ⟨fun _ k h => k.t _ _ h⟩
instance {p : Addr} {ns : List Int} : CarB b r H H' (H p = some (.lst (ns.map V.int))) (H' p = some (.lst (ns.map V.int))) := ⟨fun bx k h => k.at1 (bx.neInts h) h⟩
instance {p x y : Addr} : CarB b r H H' (H p = some (.lst [.ref x, .ref y])) (H' p = some (.lst [.ref x, .ref y])) := ⟨fun bx k h => k.at1 (fun e => by
  obtain ⟨i, ms, h1, _, _⟩ := bx
  rw [e, h1] at h
  exact nomatch (List.cons.inj (List.cons.inj (HO.lst.inj (Option.some.inj h))).2).1) h⟩
instance {p C dx : Addr} {fs : List (Str × V)} : CarB b r H H' (H p = some (.ins C dx fs)) (H' p = some (.ins C dx fs)) := ⟨fun bx k h => bx.other k (fun _ z => nomatch z) h⟩
instance {p : Addr} {ds : List (List Key × V)} : CarB b r H H' (H p = some (.dT ds)) (H' p = some (.dT ds)) := ⟨fun bx k h => bx.other k (fun _ z => nomatch z) h⟩
instance {p : Addr} {o : HO} [n : Nb p b] : CarB b r H H' (H p = some o) (H' p = some o) := ⟨fun _ k h => k.at1 n.ne h⟩
instance {K : PySem.W.Frag} {p : Addr} {ns : List Int} : CarB b r H H' (SqL K H p (ns.map V.int)) (SqL K H' p (ns.map V.int)) := ⟨fun bx k h => bx.ints k h⟩
instance {H0 : Hp} : CarB b r H H' (Fr [b] H0 H) (Fr [b] H0 H') := ⟨fun _ k h => (h.k.tr1 k (.inl (by simp)) : Kp [b] H0 H')⟩
instance {H0 : Hp} : CarB b r H H' (Kp [b] H0 H ∧ True) (Kp [b] H0 H' ∧ True) := ⟨fun _ k h => ⟨h.1.tr1 k (.inl (by simp)), trivial⟩⟩
end
/-! rows -/
/-- tuples of ints -/
def RowsAt (K : PySem.W.Frag) (H : Hp) (n : Nat) (xs : List V) : Prop := ∀ y ∈ xs, ∃ (q : Addr) (ns : List Int), y = V.ref q ∧ SqT K H q (ns.map V.int) ∧ ns.length ≤ n
theorem RowsAt.kp {K : PySem.W.Frag} {A : List Addr} {H H' : Hp} {n : Nat} {xs : List V} (h : RowsAt K H n xs) (k : Kp A H H') : RowsAt K H' n xs := fun y hy => by
  obtain ⟨q, ns, e, h1, h2⟩ := h y hy
  exact ⟨q, ns, e, k.tup h1, h2⟩
theorem RowsAt.snoc {K : PySem.W.Frag} {H : Hp} {n : Nat} {xs : List V} {q : Addr} {ns : List Int} (h : RowsAt K H n xs) (h1 : SqT K H q (ns.map V.int)) (h2 : ns.length ≤ n) : RowsAt K H n (xs ++ [.ref q]) := fun y hy => by
  rcases List.mem_append.mp hy with m | m
  · exact h y m
  · exact ⟨q, ns, List.mem_singleton.mp m, h1, h2⟩
theorem cut_ints (rs : List Int) (lo hi : Option Int) : ∃ ns : List Int, cutV (rs.map V.int) lo hi = ns.map V.int ∧ ns.length ≤ rs.length ∧ ∀ n ∈ ns, n ∈ rs := by
  refine ⟨(rs.drop (HT.sIx (rs.map V.int).length 0 lo)).take (HT.sIx (rs.map V.int).length (rs.map V.int).length hi - HT.sIx (rs.map V.int).length 0 lo), ?_, ?_, fun n m => List.mem_of_mem_drop (List.mem_of_mem_take m)⟩
  · unfold cutV
    rw [List.map_take, List.map_drop]
  · rw [List.length_take, List.length_drop]; omega
def sp_law (K : PySem.W.Frag) : Sp := fun vs H Q _ => ∃ (a : Addr) (ns : List Int), vs = [.ref a] ∧ SqL K H a (ns.map V.int) ∧ ns.length ≤ 63 ∧ ∀ H', Q (.bl true) H'
/-! pow2 -/
/-! how often two divides -/
theorem and_odd (k : Nat) : (2 * k + 1) &&& (2 * k) = 2 * k := by
  apply Nat.eq_of_testBit_eq
  intro i
  cases i with
  | zero => simp
  | succ i =>
    have e1 : (2 * k + 1) / 2 = k := by omega
    have e2 : 2 * k / 2 = k := by omega
    rw [Nat.testBit_and, Nat.testBit_succ, Nat.testBit_succ, e1, e2, Bool.and_self]
theorem and_even (k : Nat) (h : 0 < k) : (2 * k) &&& (2 * k - 1) = 2 * (k &&& (k - 1)) := by
  apply Nat.eq_of_testBit_eq
  intro i
  have e : (2 * k - 1) / 2 = k - 1 := by omega
  have e2 : 2 * k / 2 = k := by omega
  have e3 : 2 * (k &&& (k - 1)) / 2 = k &&& (k - 1) := by omega
  cases i with
  | zero => simp [Nat.testBit_and]
  | succ i => rw [Nat.testBit_and, Nat.testBit_succ, Nat.testBit_succ, Nat.testBit_succ, e, e2, e3, Nat.testBit_and]
theorem and_le (k : Nat) : k &&& (k - 1) ≤ k := Nat.and_le_left
theorem lo_spec : ∀ n : Nat, 0 < n → ∃ v, n - (n &&& (n - 1)) = 2 ^ v ∧ n % 2 ^ v = 0 ∧ n % 2 ^ (v + 1) ≠ 0 := by
  intro n
  induction n using Nat.strongRecOn with
  | ind n ih =>
    intro h
    rcases Nat.mod_two_eq_zero_or_one n with e | e
    · have hk : 0 < n / 2 := by omega
      obtain ⟨v, h1, h2, h3⟩ := ih (n / 2) (by omega) hk
      have en : n = 2 * (n / 2) := by omega
      refine ⟨v + 1, ?_, ?_, ?_⟩
      · have := and_even (n / 2) hk
        rw [← en] at this
        have l := and_le (n / 2)
        rw [this, Nat.pow_succ, ← h1]; omega
      · rw [en, Nat.pow_succ, Nat.mul_comm (2 ^ v) 2, Nat.mul_mod_mul_left, h2]
      · rw [en, Nat.pow_succ, Nat.mul_comm (2 ^ (v + 1)) 2, Nat.mul_mod_mul_left]; omega
    · have en : n = 2 * (n / 2) + 1 := by omega
      refine ⟨0, ?_, by omega, by simpa using by omega⟩
      have := and_odd (n / 2)
      have e1 : n - 1 = 2 * (n / 2) := by omega
      rw [e1]
      have e2 : n &&& (2 * (n / 2)) = 2 * (n / 2) := by
        have : n &&& (2 * (n / 2)) = (2 * (n / 2) + 1) &&& (2 * (n / 2)) := by rw [← en]
        rw [this]; exact and_odd _
      rw [e2]; omega
/-- how many rounds a round goes back to -/
def cntB (n : Int) : Nat := Builtin.Int.intBits (Builtin.bitAnd n (-n))
theorem cntB_zero : cntB 0 = 0 := by decide
theorem cntB_pos {n : Int} (h : 0 < n) : ∃ v : Nat, cntB n = v + 1 ∧ n.toNat % 2 ^ v = 0 ∧ n.toNat % 2 ^ (v + 1) ≠ 0 := by
  obtain ⟨v, h1, h2, h3⟩ := lo_spec n.toNat (by omega)
  refine ⟨v, ?_, h2, h3⟩
  unfold cntB
  have e : Builtin.bitAnd n (-n) = ((2 ^ v : Nat) : Int) := by
    rw [PyProof.Rows.bitAnd_pn (by omega) (by omega)]
    have e1 : (Builtin.bitNot (-n)).toNat = n.toNat - 1 := by unfold Builtin.bitNot; omega
    have l := and_le n.toNat
    rw [e1]
    clear h2 h3
    generalize n.toNat &&& (n.toNat - 1) = c at *
    omega
  rw [e]
  unfold Builtin.Int.intBits
  have p : 0 < 2 ^ v := Nat.pow_pos (by decide)
  have ne : (((2 ^ v : Nat) : Int) == 0) = false := beq_eq_false_iff_ne.mpr (by omega)
  rw [ne]
  simp only [Bool.false_eq_true, if_false, Int.natAbs_natCast, Nat.log2_two_pow]
theorem dvd_iff {n v i : Nat} (h2 : n % 2 ^ v = 0) (h3 : n % 2 ^ (v + 1) ≠ 0) : n % 2 ^ i = 0 ↔ i ≤ v := by
  constructor
  · intro h
    by_cases hi : i ≤ v
    · exact hi
    · have d : 2 ^ (v + 1) ∣ n := Nat.dvd_trans (Nat.pow_dvd_pow 2 (by omega)) (Nat.dvd_of_mod_eq_zero h)
      exact absurd (Nat.mod_eq_zero_of_dvd d) h3
  · intro hi
    exact Nat.mod_eq_zero_of_dvd (Nat.dvd_trans (Nat.pow_dvd_pow 2 hi) (Nat.dvd_of_mod_eq_zero h2))
theorem cast_pow (i : Nat) : ((2 ^ i : Nat) : Int) = (2 : Int) ^ i := by simp
theorem cnt_lt {n : Int} (h : 0 ≤ n) (i : Nat) : i < cntB n ↔ (2 : Int) ^ i ≤ n ∧ n % 2 ^ i = 0 := by
  by_cases h0 : n = 0
  · subst h0
    rw [cntB_zero]
    have p : (0 : Int) < 2 ^ i := by rw [← cast_pow]; exact_mod_cast Nat.pow_pos (by decide)
    omega
  · obtain ⟨v, e, h2, h3⟩ := cntB_pos (n := n) (by omega)
    rw [e]
    have en : n = ((n.toNat : Nat) : Int) := by omega
    have em : n % 2 ^ i = ((n.toNat % 2 ^ i : Nat) : Int) := by
      conv => lhs; rw [en, ← cast_pow]
      exact (Int.natCast_emod _ _).symm
    constructor
    · intro hi
      have z := (dvd_iff h2 h3 (i := i)).mpr (by omega)
      have l : 2 ^ i ≤ n.toNat := Nat.le_of_dvd (by omega) (Nat.dvd_of_mod_eq_zero z)
      rw [em, z]
      refine ⟨?_, rfl⟩
      rw [en, ← cast_pow]; exact_mod_cast l
    · rintro ⟨_, hm⟩
      rw [em] at hm
      have := (dvd_iff h2 h3 (i := i)).mp (by omega)
      omega
theorem cnt_le {n : Int} {m : Nat} (h : 0 ≤ n) (hm : n < 2 ^ m) : cntB n ≤ m := by
  by_cases hc : m < cntB n
  · have := ((cnt_lt h m).mp hc).1
    omega
  · omega
/-- the rounds back -/
def bk (n : Int) : List Int := (List.range (cntB n)).map fun i => n - 2 ^ i
theorem bk_len (n : Int) : (bk n).length = cntB n := by unfold bk; rw [List.length_map, List.length_range]
def bkTo (n : Int) (i : Nat) : List Int := (List.range i).map fun i => n - 2 ^ i
theorem bkTo_succ (n : Int) (i : Nat) : bkTo n (i + 1) = bkTo n i ++ [n - 2 ^ i] := by unfold bkTo; rw [List.range_succ, List.map_append]; rfl
theorem bkTo_len (n : Int) (i : Nat) : (bkTo n i).length = i := by unfold bkTo; rw [List.length_map, List.length_range]
/-! things -/
def isThing (ns : List Int) : Bool :=
  if ns.length = 0 then false
  else if ns.getD 0 0 = 1 then decide (ns.length = 3)
  else if ns.getD 0 0 = 2 then decide (2 ≤ ns.length ∧ 2 + ns.getD 1 0 ≤ ns.length)
  else if ns.getD 0 0 = 4 then decide (6 ≤ ns.length ∧ 1 ≤ ns.getD 4 0 ∧ ns.length = 6 + cntB (ns.getD 2 0))
  else decide (ns.getD 0 0 = 5 ∧ ns.length = 2)
theorem at_getD {ns : List Int} (i : Nat) (h : i < ns.length) : atI (ns.map V.int) (i : Int) = some (.int (ns.getD i 0)) := by
  refine atI_nat ?_
  rw [List.getElem?_map, List.getElem?_eq_getElem h, List.getD_eq_getElem?_getD, List.getElem?_eq_getElem h]; rfl
/-! _law_cell -/
section
local macro_rules | `(tactic| wtm_at "d") => `(tactic| first | ((with_reducible show Z.XE _ (PySem.Expr.Call (PySem.Expr.Name "len" _) (_ :: _) [] _) _ _ _); refine Z.xe_callB (id := "len") (by assumption) (by wtm_at "m") T.b_len (by decide +kernel) ?_) | fail)
def sp_cell (K : PySem.W.Frag) : Sp := fun vs H Q _ => ∃ (a : Addr) (ns : List Int) (k : Int), vs = [.ref a, .int k] ∧ SqL K H a (ns.map V.int) ∧ 0 ≤ k ∧ ∀ v : Int, Q (.int v) H
theorem ok__law_cell (T : Txt P w K mg base) : DefOk P w K mg base "_law_cell" ["script", "k"] 1 (sp_cell K) := by
  refine DefOk.by T.d__law_cell sc__law_cell oc__law_cell (fun vs H Q E h => ?_) (fun X e1 e2 e3 e4 e5 C H vs Q E h => ?_)
  · obtain ⟨a, ns, k, rfl, _⟩ := h; rfl
  · obtain ⟨a, ns, k, rfl, hS, h0, q⟩ := h
    wtm_at "go"
    wtm_at "w"
    refine ite_d (fun h => ?_) (fun h => ?_)
    · rw [List.length_map] at h
      wtm_at "w"
      have hk : k.toNat < ns.length := by omega
      exact vx_lst hS (at_map h0 (List.getElem?_eq_getElem hk)) (q _)
    · wtm_at "w"
      exact q _
end
/-! _law_row -/
section
local macro_rules | `(tactic| wtm_at "d") => `(tactic| first | ((with_reducible show Z.XE _ (PySem.Expr.Call (PySem.Expr.Name "abs" _) (_ :: _) [] _) _ _ _); refine Z.xe_callB (id := "abs") (by assumption) (by wtm_at "m") T.b_abs (by decide +kernel) ?_) | ((with_reducible show Z.XE _ (PySem.Expr.Call (PySem.Expr.Name "int" _) (_ :: _) [] _) _ _ _); refine Z.xe_callTy (id := "int") (by assumption) (by wtm_at "m") T.b_int (by decide +kernel) ?_) | ((with_reducible show Z.XE _ (PySem.Expr.Name "int" _) _ _ _); refine Z.xe_ty (id := "int") (by assumption) (by wtm_at "m") T.b_int (by decide +kernel) ?_) | ((with_reducible show Z.XE _ (PySem.Expr.Call (PySem.Expr.Name "_law_cell" _) (_ :: _) [] _) _ _ _); refine Z.xe_call (by assumption) (Law.ok__law_cell T) (by wtm_at "m") (by omega) ?_) | fail)
def sp_row (K : PySem.W.Frag) : Sp := fun vs H Q _ => ∃ (a : Addr) (ns : List Int) (f l : Int), vs = [.ref a, .int f, .int l] ∧ SqL K H a (ns.map V.int) ∧ 0 ≤ f ∧ f ≤ 100 ∧ 0 ≤ l ∧ l ≤ 100 ∧
  ∀ p H' (rs : List Int), Kp [] H H' → H p = none → H' p = some (.lst (rs.map V.int)) → (∀ v ∈ rs, 0 ≤ v ∧ v < 840) → Q (.ref p) H'
/-- the row so far -/
def RowI (H H' : Hp) (r : Addr) (n : Nat) : Prop := H r = none ∧ Kp [] H H' ∧ ∃ rs : List Int, H' r = some (.lst (rs.map V.int)) ∧ rs.length ≤ n ∧ ∀ v ∈ rs, 0 ≤ v ∧ v < 840
theorem RowI.push {H H' H2 : Hp} {r : Addr} {n : Nat} {rs : List Int} {v : Int} (h : H r = none) (k1 : Kp [] H H') (e : H' r = some (.lst (rs.map V.int))) (hl : rs.length ≤ n) (hv : ∀ v ∈ rs, 0 ≤ v ∧ v < 840) (k2 : Kp [r] H' H2) (e2 : H2 r = some (.lst (rs.map V.int ++ [.int v]))) (h0 : 0 ≤ v ∧ v < 840) : RowI H H2 r (n + 1) := by
  refine ⟨h, k1.tr1 k2 (.inr h), rs ++ [v], ?_, ?_, ?_⟩
  · rw [e2, List.map_append]; rfl
  · rw [List.length_append]; simpa using hl
  · intro u hu
    rcases List.mem_append.mp hu with m | m
    · exact hv u m
    · rw [List.mem_singleton.mp m]; exact h0
theorem ok__law_row (T : Txt P w K mg base) : DefOk P w K mg base "_law_row" ["script", "first", "last"] 2 (sp_row K) := by
  refine DefOk.by T.d__law_row sc__law_row oc__law_row (fun vs H Q E h => ?_) (fun X e1 e2 e3 e4 e5 C H vs Q E h => ?_)
  · obtain ⟨a, ns, f, l, rfl, _⟩ := h; rfl
  · obtain ⟨a, ns, f, l, rfl, hS, f0, f1, l0, l1, q⟩ := h
    wtm_at "go"
    wtm_at "w"
    intro r H1 k1 nr hr
    wtm_at "w"
    refine xs_forR2 (by assumption) (by wtm_at "m") T.b_range ?_
    wtm_at "w"
    refine ⟨f, l, rfl, by omega, fun i σ H' => ∃ vk vc vt, σ = [some (.ref a), some (.int f), some (.int l), some (.ref r), vk, vc, vt] ∧ RowI H H' r (60 * i), ⟨none, none, none, rfl, nr, k1, [], hr, Nat.le_refl _, by simp⟩, ?_, ?_⟩
    · rintro i σ' H2 hi ⟨vk, vc, vt, rfl, n2, k2, rs, e2, len2, hv2⟩
      have hS2 : SqL X.K H2 a (ns.map V.int) := k2.lst0 hS
      wtm_at "w"
      refine ⟨a, ns, f + i, rfl, hS2, by omega, fun c => ?_⟩
      wtm_at "w"
      refine vo_mul (cmulL ⟨by decide, by decide⟩) ?_
      wtm_at "w"
      generalize hc : ((if 2 * c < 0 then -(2 * c) else 2 * c) + if decide (c < 0) = true then 1 else 0 : Int) = c'
      refine vo_pow ⟨by decide, by decide, by decide⟩ ?_
      wtm_at "w"
      refine ite_d (fun h => ?_) (fun h => ?_)
      · wtm_at "w"
        refine xs_forR1 (by assumption) (by wtm_at "m") T.b_range ?_
        wtm_at "w"
        refine ⟨60, rfl, by decide, by decide, fun t σ H' => ∃ vk, ∃ c : Int, ∃ vt, σ = [some (.ref a), some (.int f), some (.int l), some (.ref r), vk, some (.int c), vt] ∧ RowI H H' r (60 * i + t), ⟨_, _, _, rfl, n2, k2, rs, e2, by omega, hv2⟩, ?_, ?_⟩
        · rintro t σ' H3 ht ⟨vk, d, vt, rfl, n3, k3, rs3, e3, len3, hv3⟩
          have ht' : t < 60 := ht
          have hi' : i < 100 := by omega
          wtm_at "w"
          refine ite_d (fun h => ?_) (fun h => ?_)
          · wtm_at "w"
            refine ⟨e3, szl (by rw [List.length_map]; omega), fun H4 k4 e4 => ?_⟩
            wtm_at "w"
            exact ⟨_, _, _, rfl, RowI.push n3 k3 e3 len3 hv3 k4 e4 ⟨Int.emod_nonneg _ (by decide), Int.emod_lt_of_pos _ (by decide)⟩⟩
          · wtm_at "w"
            exact ⟨_, _, _, rfl, n3, k3, rs3, e3, by omega, hv3⟩
        · rintro σ' H3 ⟨vk, d, vt, rfl, n3, k3, rs3, e3, len3, hv3⟩
          wtm_at "w"
          have len3' : rs3.length ≤ 60 * i + 60 := len3
          exact ⟨_, _, _, rfl, n3, k3, rs3, e3, by omega, hv3⟩
      · wtm_at "w"
        refine xs_forR1 (by assumption) (by wtm_at "m") T.b_range ?_
        wtm_at "w"
        refine ⟨10, rfl, by decide, by decide, fun t σ H' => ∃ vt, ∃ c : Int, σ = [some (.ref a), some (.int f), some (.int l), some (.ref r), some (.int (f + i)), some (.int c), vt] ∧ RowI H H' r (60 * i + t), ⟨_, _, rfl, n2, k2, rs, e2, by omega, hv2⟩, ?_, ?_⟩
        · rintro t σ' H3 ht ⟨vt, d, rfl, n3, k3, rs3, e3, len3, hv3⟩
          have ht' : t < 10 := ht
          have hi' : i < 100 := by omega
          wtm_at "w"
          refine vo_mul (cmulR ⟨by decide, by decide⟩) ?_
          wtm_at "w"
          refine vo_mul (cmulL ⟨by decide, by decide⟩) ?_
          wtm_at "w"
          refine ⟨e3, szl (by rw [List.length_map]; omega), fun H4 k4 e4 => ?_⟩
          wtm_at "w"
          exact ⟨_, _, rfl, RowI.push n3 k3 e3 len3 hv3 k4 e4 ⟨Int.emod_nonneg _ (by decide), Int.emod_lt_of_pos _ (by decide)⟩⟩
        · rintro σ' H3 ⟨vt, d, rfl, n3, k3, rs3, e3, len3, hv3⟩
          wtm_at "w"
          have len3' : rs3.length ≤ 60 * i + 10 := len3
          exact ⟨_, _, _, rfl, n3, k3, rs3, e3, by omega, hv3⟩
    · rintro σ' H2 ⟨vk, vc, vt, rfl, n2, k2, rs, e2, len2, hv2⟩
      wtm_at "w"
      exact q _ _ rs k2 n2 e2 hv2
end
/-! _law_draw -/
section
local macro_rules | `(tactic| wtm_at "d") => `(tactic| first | ((with_reducible show Z.XE _ (PySem.Expr.Call (PySem.Expr.Name "int" _) (_ :: _) [] _) _ _ _); refine Z.xe_callTy (id := "int") (by assumption) (by wtm_at "m") T.b_int (by decide +kernel) ?_) | ((with_reducible show Z.XE _ (PySem.Expr.Name "int" _) _ _ _); refine Z.xe_ty (id := "int") (by assumption) (by wtm_at "m") T.b_int (by decide +kernel) ?_) | ((with_reducible show Z.XE _ (PySem.Expr.Call (PySem.Expr.Name "len" _) (_ :: _) [] _) _ _ _); refine Z.xe_callB (id := "len") (by assumption) (by wtm_at "m") T.b_len (by decide +kernel) ?_) | fail)
def sp_draw : Sp := fun vs H Q _ => ∃ (b r : Addr) (m : Int), vs = [.ref b, .int m] ∧ Box H b r ∧ 0 < m ∧ ∀ (v : Int) H', 0 ≤ v → v < m → Kp [b] H H' → Box H' b r → Q (.int v) H'
theorem ok__law_draw (T : Txt P w K mg base) : DefOk P w K mg base "_law_draw" ["box", "many"] 1 sp_draw := by
  refine DefOk.by T.d__law_draw sc__law_draw oc__law_draw (fun vs H Q E h => ?_) (fun X e1 e2 e3 e4 e5 C H vs Q E h => ?_)
  · obtain ⟨b, r, m, rfl, _⟩ := h; rfl
  · obtain ⟨b, r, m, rfl, bx, hm, q⟩ := h
    have nbr := bx.br
    obtain ⟨i, ns, h1, h2, h3⟩ := bx
    wtm_at "go"
    wtm_at "w"
    refine xs_setIx ?_
    wtm_at "w"
    refine ⟨b, _, 1, 1, rfl, rfl, h1, ix1, fun H2 k2 e2 => ?_⟩
    have e2 : H2 b = some (.lst [.ref r, .int (i + 1)]) := e2
    have h3' : H2 r = some (.lst (ns.map V.int)) := k2.at1 nbr h3
    have hB : Box H2 b r := ⟨i + 1, ns, e2, by omega, h3'⟩
    wtm_at "w"
    refine ite_d (fun h => ?_) (fun h => ?_)
    · rw [List.length_map] at h
      wtm_at "w"
      have hk : i.toNat < ns.length := by omega
      refine vx_lst (Z.SqL.of' h3') (at_map h2 (List.getElem?_eq_getElem hk)) ?_
      wtm_at "w"
      refine vo_mod hm ?_
      exact q _ _ (Int.emod_nonneg _ (by omega)) (Int.emod_lt_of_pos _ hm) k2 hB
    · wtm_at "w"
      refine vo_mul (cmulR ⟨by decide, by decide⟩) ?_
      wtm_at "w"
      refine vo_mod hm ?_
      exact q _ _ (Int.emod_nonneg _ (by omega)) (Int.emod_lt_of_pos _ hm) k2 hB
end
/-! prime -/
def PR : Int := 2305843009213693951
/-! digests -/
/-! what a digest is -/
def mixS (f s n : Int) : Int := (s * f + n + 1) % PR
def mixF (f : Int) (ns : List Int) (s : Int) : Int := ns.foldl (mixS f) s
def dig (b f : Int) (ns : List Int) : Int := (mixF f (ns.length :: ns) 1 * 48271 + mixF f (ns.length :: ns) 1 / 65536) % b
theorem mixS_rng (f s n : Int) : 0 ≤ mixS f s n ∧ mixS f s n < PR := ⟨Int.emod_nonneg _ (by decide), Int.emod_lt_of_pos _ (by decide)⟩
theorem mixF_snoc (f : Int) (ns : List Int) (n s : Int) : mixF f (ns ++ [n]) s = mixS f (mixF f ns s) n := by unfold mixF; rw [List.foldl_append]; rfl
theorem mixF_take {f s n : Int} {ns : List Int} {i : Nat} (h : ns[i]? = some n) : mixF f (ns.take (i + 1)) s = mixS f (mixF f (ns.take i) s) n := by
  rw [List.take_add_one, h]; exact mixF_snoc _ _ _ _
theorem mixF_rng {f : Int} : ∀ (ns : List Int) (s : Int), 0 ≤ s → s < PR → 0 ≤ mixF f ns s ∧ mixF f ns s < PR
  | [], s, h0, h1 => ⟨h0, h1⟩
  | n :: ns, s, _, _ => mixF_rng ns (mixS f s n) (mixS_rng f s n).1 (mixS_rng f s n).2
theorem mulP {s : Int} (h0 : 0 ≤ s) (h1 : s < PR) : -(2 ^ 64) < s ∧ s < 2 ^ 64 := by unfold PR at h1; omega
theorem dig_rng {b f : Int} {ns : List Int} (hb : 0 < b) : 0 ≤ dig b f ns ∧ dig b f ns < b := ⟨Int.emod_nonneg _ (by omega), Int.emod_lt_of_pos _ hb⟩
/-- a mixing at p -/
def mxF (b f : Int) : List (Str × V) := putF "factor" (.int f) (putF "bound" (.int b) [])
theorem mx_b (b f : Int) : (mxF b f).lookup ("bound" : Str) = some (.int b) := by
  unfold mxF; rw [lookup_putF, if_neg (by decide +kernel), lookup_putF, if_pos rfl]
theorem mx_f (b f : Int) : (mxF b f).lookup ("factor" : Str) = some (.int f) := by
  unfold mxF; rw [lookup_putF, if_pos rfl]
def Mx (C : Addr) (H : Hp) (p : Addr) (b f : Int) : Prop := ∃ dx, H p = some (.ins C dx (mxF b f))
theorem Mx.kp {C p : Addr} {H H' : Hp} {b f : Int} (h : Mx C H p b f) (k : Kp [] H H') : Mx C H' p b f := by
  obtain ⟨dx, h⟩ := h
  exact ⟨dx, k.at0 h⟩
theorem Mx.kp1 {C p l : Addr} {H H' : Hp} {b f : Int} {xs : List V} (h : Mx C H p b f) (k : Kp [l] H H') (hl : H l = some (.lst xs)) : Mx C H' p b f := by
  obtain ⟨dx, h⟩ := h
  refine ⟨dx, k.at (fun m => ?_) h⟩
  rw [List.mem_singleton.mp m, hl] at h; cases h
theorem Mx.box {C p b' r : Addr} {H H' : Hp} {b f : Int} (h : Mx C H p b f) (bx : Box H b' r) (k : Kp [b'] H H') : Mx C H' p b f := by
  obtain ⟨dx, h⟩ := h
  exact ⟨dx, bx.other k (fun _ e => nomatch e) h⟩
theorem Mx.new {C p l : Addr} {H H' : Hp} {b f : Int} (h : Mx C H p b f) (n : p ≠ l) (k : Kp [l] H H') : Mx C H' p b f := by
  obtain ⟨dx, h⟩ := h
  exact ⟨dx, k.at1 n h⟩
theorem Mx.nl {C p l : Addr} {H : Hp} {b f : Int} (h : Mx C H p b f) (n : H l = none) : p ≠ l := by
  obtain ⟨dx, h⟩ := h
  exact ne_of_none h n
/-! carm -/
section
variable {H H' : Hp} {b r : Addr}
instance {C p : Addr} {n f : Int} : Car H H' (Mx C H p n f) (Mx C H' p n f) := ⟨fun k nn ⟨dx, h⟩ => ⟨dx, k.atN nn h⟩⟩
instance {C p : Addr} {n f : Int} : CarB b r H H' (Mx C H p n f) (Mx C H' p n f) := ⟨fun bx k h => h.box bx k⟩
end
/-! Mixing -/
section
local macro_rules | `(tactic| wtm_at "d") => `(tactic| fail)
def sp_Mixing (C : Addr) : Sp := fun vs H Q _ => ∃ (z dx : Addr) (b f : Int), vs = [.ref z, .int b, .int f] ∧ H z = some (.ins C dx []) ∧ ∀ H', Kp [z] H H' → Mx C H' z b f → Q .non H'
theorem ok_Mixing (T : Txt P w K mg base) : ClsOk P w K mg base "Mixing" T.C_Mixing ["self", "bound", "factor"] 1 (sp_Mixing T.C_Mixing) := by
  obtain ⟨f, fd, M, F, b⟩ := T.mk_Mixing
  refine ⟨f, fd, fnOk_by F sc_Mixing___init__ oc_Mixing___init__ (fun vs H Q E h => ?_) (fun X e1 e2 e3 e4 e5 C H vs Q E h => ?_), T.mg_Mixing, M, b⟩
  · obtain ⟨z, dx, b, f, rfl, _⟩ := h; rfl
  · obtain ⟨z, dx, b, f, rfl, h1, q⟩ := h
    wtm_at "go"
    refine xs_fld ?_
    wtm_at "w"
    refine ⟨z, _, dx, _, rfl, h1, T.cl_Mixing, T.na_Mixing_bound, by decide, fun H1 k1 e1 => ?_⟩
    wtm_at "w"
    refine xs_fld ?_
    wtm_at "w"
    refine ⟨z, _, dx, _, rfl, e1, T.cl_Mixing, T.na_Mixing_factor, by show 1 < 1000; decide, fun H2 k2 e2 => ?_⟩
    wtm_at "w"
    exact q H2 (k1.tr1 k2 (.inl (by simp))) ⟨dx, e2⟩
end
/-! _mixed -/
section
local macro_rules | `(tactic| wtm_at "d") => `(tactic| first | ((with_reducible show Z.XE _ (PySem.Expr.Name "PRIME" _) _ _ _); refine Z.xe_glob (v := L2.V.int 2305843009213693951) (by assumption) (by wtm_at "m") T.c_PRIME.choose_spec ⟨_, rfl⟩ ?_) | fail)
def sp_mixed (C : Addr) : Sp := fun vs H Q _ => ∃ (p : Addr) (b f s n : Int), vs = [.ref p, .int s, .int n] ∧ Mx C H p b f ∧ 0 ≤ s ∧ s < PR ∧ Q (.int (mixS f s n)) H
theorem ok__mixed (T : Txt P w K mg base) : DefOk P w K mg base "_mixed" ["mixing", "state", "number"] 1 (sp_mixed T.C_Mixing) := by
  refine DefOk.by T.d__mixed sc__mixed oc__mixed (fun vs H Q E h => ?_) (fun X e1 e2 e3 e4 e5 C H vs Q E h => ?_)
  · obtain ⟨p, b, f, s, n, rfl, _⟩ := h; rfl
  · obtain ⟨p, b, f, s, n, rfl, ⟨dx, hp⟩, h0, h1, q⟩ := h
    wtm_at "go"
    wtm_at "w"
    refine xe_fld ?_
    wtm_at "w"
    refine ⟨p, _, dx, _, _, rfl, hp, T.cl_Mixing, T.na_Mixing_factor, mx_f b f, ?_⟩
    refine vo_mul (cmulL (mulP h0 h1)) ?_
    wtm_at "w"
    exact q
end
/-! digest -/
section
local macro_rules | `(tactic| wtm_at "d") => `(tactic| first | ((with_reducible show Z.XE _ (PySem.Expr.Call (PySem.Expr.Name "len" _) (_ :: _) [] _) _ _ _); refine Z.xe_callB (id := "len") (by assumption) (by wtm_at "m") T.b_len (by decide +kernel) ?_) | ((with_reducible show Z.XE _ (PySem.Expr.Call (PySem.Expr.Name "_mixed" _) (_ :: _) [] _) _ _ _); refine Z.xe_call (by assumption) (Law.ok__mixed T) (by wtm_at "m") (by omega) ?_) | fail)
def sp_digest (K : PySem.W.Frag) (C : Addr) : Sp := fun vs H Q _ => ∃ (p r : Addr) (b f : Int) (ns : List Int), vs = [.ref p, .ref r] ∧ Mx C H p b f ∧ SqT K H r (ns.map V.int) ∧ 0 < b ∧ Q (.int (dig b f ns)) H
theorem ok_digest (T : Txt P w K mg base) : DefOk P w K mg base "digest" ["mixing", "row"] 2 (sp_digest K T.C_Mixing) := by
  refine DefOk.by T.d_digest sc_digest oc_digest (fun vs H Q E h => ?_) (fun X e1 e2 e3 e4 e5 C H vs Q E h => ?_)
  · obtain ⟨p, r, b, f, ns, rfl, _⟩ := h; rfl
  · obtain ⟨p, r, b, f, ns, rfl, hm, hr, hb, q⟩ := h
    wtm_at "go"
    wtm_at "w"
    refine ⟨p, b, f, 1, _, rfl, hm, by decide, by decide, ?_⟩
    wtm_at "w"
    refine xs_forT (by assumption) ?_
    wtm_at "w"
    have s0 := mixS_rng f 1 ((ns.map V.int).length : Int)
    refine ⟨r, _, rfl, hr, fun i σ H' => ∃ vn, σ = [some (.ref p), some (.ref r), some (.int (mixF f (ns.take i) (mixS f 1 ((ns.map V.int).length : Int)))), vn] ∧ H' = H, ⟨none, rfl, rfl⟩, ?_, ?_, ?_⟩
    · rintro i σ' H' hi ⟨vn, rfl, rfl⟩
      exact hr
    · rintro i y σ' H' hy ⟨vn, rfl, rfl⟩
      obtain ⟨n, hn, rfl⟩ := map_at hy
      have s1 := mixF_rng (f := f) (ns.take i) _ s0.1 s0.2
      wtm_at "w"
      refine ⟨p, b, f, _, n, rfl, hm, s1.1, s1.2, ?_⟩
      wtm_at "w"
      exact ⟨_, by rw [mixF_take hn], rfl⟩
    · rintro σ' H' ⟨vn, rfl, rfl⟩
      have e : (ns.take (ns.map V.int).length) = ns := by rw [List.length_map]; exact List.take_length
      rw [e]
      have s1 := mixF_rng (f := f) ns _ s0.1 s0.2
      wtm_at "w"
      refine vo_mul (cmulR ⟨by decide, by decide⟩) ?_
      wtm_at "w"
      refine xe_fld ?_
      wtm_at "w"
      obtain ⟨dx, hp⟩ := hm
      refine ⟨p, _, dx, _, _, rfl, hp, T.cl_Mixing, T.na_Mixing_bound, mx_b b f, ?_⟩
      refine vo_mod hb ?_
      have e2 : mixF f ns (mixS f 1 ((ns.map V.int).length : Int)) = mixF f (ns.length :: ns) 1 := by rw [List.length_map]; rfl
      rw [e2]
      exact q
end
/-! digest_of -/
section
local macro_rules | `(tactic| wtm_at "d") => `(tactic| first | ((with_reducible show Z.XE _ (PySem.Expr.Call (PySem.Expr.Name "digest" _) (_ :: _) [] _) _ _ _); refine Z.xe_call (by assumption) (Law.ok_digest T) (by wtm_at "m") (by omega) ?_) | fail)
theorem ok_digest_of (T : Txt P w K mg base) : DefOk P w K mg base "digest_of" ["mixing", "row"] 3 (sp_digest K T.C_Mixing) := by
  refine DefOk.by T.d_digest_of sc_digest_of oc_digest_of (fun vs H Q E h => ?_) (fun X e1 e2 e3 e4 e5 C H vs Q E h => ?_)
  · obtain ⟨p, r, b, f, ns, rfl, _⟩ := h; rfl
  · obtain ⟨p, r, b, f, ns, rfl, hm, hr, hb, q⟩ := h
    wtm_at "go"
    wtm_at "w"
    exact ⟨p, r, b, f, ns, rfl, hm, hr, hb, q⟩
end
/-! seqs -/
theorem map_at_bl {bs : List Bool} {i : Nat} {y : V} (h : (bs.map V.bl)[i]? = some y) : ∃ n, bs[i]? = some n ∧ y = .bl n := by
  rw [List.getElem?_map] at h
  cases e : bs[i]? with
  | none => rw [e] at h; cases h
  | some n => rw [e] at h; exact ⟨n, rfl, (Option.some.inj h).symm⟩
theorem drop_at {α : Type} {l : List α} {t : Nat} {x : α} (h : l[t]? = some x) : l.drop t = x :: l.drop (t + 1) := by
  obtain ⟨h1, h2⟩ := List.getElem?_eq_some_iff.mp h
  rw [List.drop_eq_getElem_cons h1, h2]
theorem at_nat {α : Type} {xs : List α} {t : Nat} {y : α} (h : xs[t]? = some y) : atI xs (t : Int) = some y := by
  have hi := (List.getElem?_eq_some_iff.mp h).1
  unfold atI ixN
  rw [if_pos (by omega), if_pos (by omega)]
  exact h
theorem at_getLast {α : Type} {xs : List α} {v : α} (h : xs.getLast? = some v) : atI xs (-1) = some v := by
  have l : 0 < xs.length := by
    cases xs with
    | nil => cases h
    | cons x xs => simp
  unfold atI ixN
  rw [if_neg (by decide), if_pos (by omega)]
  rw [List.getLast?_eq_getElem?] at h
  simp only [Option.bind]
  rw [← h]
  congr 1
  omega
theorem at_map_nat {ns : List Int} {i : Nat} {x : Int} (h : ns[i]? = some x) : atI (ns.map V.int) (i : Int) = some (.int x) := at_nat (by rw [List.getElem?_map, h]; rfl)
/-! dicts -/
/-! dicts with numbers for keys; least and greatest -/
section
variable {X : Cx} {σ : St} {H : Hp} {Q : VK} {N Vs Ls G : List Str} {k : Nat} {sc : Scope} {a b e o i : Expr} {pos p1 : Pos} {R : Bool → Hp → Prop} {D : B3} {nx : St → Hp → Prop}
theorem xe_dget (C : Ctx X sc N Vs Ls G k) (h : XE X a σ H fun x H1 => XE X b σ H1 fun y H2 => ∃ p v, x = .ref p ∧ DGet H2 p y (some v) ∧ Q v H2) (hs : NoSl b := by exact fun _ _ => rfl) : XE X (.Subscript a b pos) σ H Q := ⟨_, pe_dget C.hu XE.pe XE.pe hs, h⟩
theorem ix_dict (hu : X.A.units + 1 < cLine) : IxR X (fun x y H Q => ∃ a v, x = .ref a ∧ DGet H a y (some v) ∧ Q v H) := by
  intro ve se pins s0 σ0 H0 x0 y0 v0 u0 Q0 I0 rx ry h hs
  obtain ⟨a, r, rfl, g, q⟩ := h
  have ev : v0 = .ref a := rx
  subst ev
  exact PyProof.Rows.tail_any (dict_typeIs I0 g) PySem.F.slot_dict_getitem.lookup (d_getItem hu I0 g ry fun _ _ I3 e3 => ⟨r, H0, I3, e3, q⟩) hs
theorem vx_dict {p : Addr} {y v : V} (C : Ctx X sc N Vs Ls G k) (g : DGet H p y (some v)) (q : Q v H) : VX X (.ref p) y H Q := ⟨_, ix_dict C.hu, p, v, rfl, g, q⟩
theorem xt_dnotin (C : Ctx X sc N Vs Ls G k) (h : XE X a σ H fun y H1 => XE X b σ H1 fun x H2 => ∃ p o, x = .ref p ∧ DGet H2 p y o ∧ R (!o.isSome) H2) (hb : behindInMarks .NotIn b = false := by rfl) : XT X (.Compare a [.NotIn] [b] pos) σ H R :=
  ⟨_, pt_cmp (pc_dnotin C.hu XE.pe XE.pe) hb, XE.mono h fun y H1 h => XE.mono h fun x H2 ⟨p, o, e1, e2, q⟩ => ⟨p, o, e1, e2, _, rfl, q⟩⟩
theorem xs_dput (C : Ctx X sc N Vs Ls G k) (h : XE X e σ H fun v H1 => XE X o σ H1 fun x H2 => XE X i σ H2 fun y H3 => ∃ (p : Addr) (kvs : List (Key × V)) (kk : Key), x = .ref p ∧ y = kV kk ∧ H3 p = some (.dK kvs) ∧ kvs.length < sizeLine ∧ ∀ H', Kp [p] H3 H' → H' p = some (.dK (putK kvs kk v)) → nx σ H')
    (hs : swapsWith e (some (.Subscript o i p1)) pos.line X.env = pure false := by rfl) : XS X (.Assign [.Subscript o i p1] e pos) nx D σ H :=
  ⟨_, ps_dput C.hu XE.pe XE.pe XE.pe hs, XE.mono h fun v H1 h => XE.mono h fun x H2 h => XE.mono h fun y H3 ⟨p, kvs, kk, e1, e2, e3, e4, q⟩ => ⟨p, _, e1, .inl ⟨kvs, kk, e3, e2, e4, rfl⟩, q _ (Kp.set e3 rfl) upd_same⟩⟩
theorem xe_disp1 (h : ∀ p H1, Kp [] H H1 → H p = none → H1 p = some (.dK []) → XE X a σ H1 fun x H2 => XE X b σ H2 fun y H3 => H3 p = some (.dK []) ∧ ∃ kk : Key, x = kV kk ∧ ∀ H4, Kp [p] H3 H4 → H4 p = some (.dK [(kk, y)]) → Q (.ref p) H4) : XE X (.Dict [some a] [b] pos) σ H Q := by
  refine ⟨_, pe_disp (pps_cons XE.pe XE.pe pps_nil) rfl rfl (fun z => by cases z) (by simp), fun p hp => ?_⟩
  show XE X a σ _ _
  refine XE.mono (h p _ (Kp.new hp) hp upd_same) fun x H2 h => ?_
  show XE X b σ _ _
  refine XE.mono h fun y H3 ⟨e, kk, ek, q⟩ => ?_
  exact ⟨e, [(kk, y)], by rw [ek]; rfl, by simp, q _ (Kp.set e rfl) upd_same⟩
theorem vc_min2 {x y : Int} (C : Ctx X sc N Vs Ls G k) (h : Q (.int (if y < x then y else x)) H) : VC X (.builtin "min") [.int x, .int y] H Q := ⟨_, call_min2 C.calm, x, y, rfl, h⟩
theorem vc_max2 {x y : Int} (C : Ctx X sc N Vs Ls G k) (h : Q (.int (if y > x then y else x)) H) : VC X (.builtin "max") [.int x, .int y] H Q := ⟨_, call_max2 C.calm, x, y, rfl, h⟩
theorem vc_minL {p : Addr} {ns : List Int} (C : Ctx X sc N Vs Ls G k) (hx : SqL X.K H p (ns.map V.int)) (h0 : 0 < ns.length) (h : ∀ m, m ∈ ns → (∀ y, y ∈ ns → m ≤ y) → Q (.int m) H) : VC X (.builtin "min") [.ref p] H Q := ⟨_, cr_min C.calm, p, ns, rfl, hx, h0, h⟩
theorem inV_ints {y : Int} : ∀ ns : List Int, inV (.int y) (ns.map V.int) = decide (y ∈ ns)
  | [] => by simp [inV]
  | n :: ns => by
    have ih := inV_ints (y := y) ns
    unfold inV at ih ⊢
    rw [List.map_cons, List.any_cons, ih]
    by_cases e : n = y
    · simp [eqV, e]
    · have : ¬ y = n := fun z => e z.symm
      simp [eqV, e, this]
theorem vo_notInI {p : Addr} {y : Int} {ns : List Int} (hx : SqL X.K H p (ns.map V.int)) (h : Q (.bl (!decide (y ∈ ns))) H) : VO X (compareOp .NotIn) (.int y) (.ref p) H Q :=
  ⟨_, op_notIn_seq, p, _, rfl, .inl hx, rfl, by simp [flatV], by rw [inV_ints]; exact h⟩
end
/-! dicts2 -/
/-! in a dict; lists of a dict, of a range -/
section
variable {X : Cx} {σ : St} {H : Hp} {Q : VK} {N Vs Ls G : List Str} {k : Nat} {sc : Scope} {a : Expr} {pos p1 p2 p3 : Pos}
theorem op_inDct (hu : X.A.units + 1 < cLine) : OpR X (compareOp .In) (fun x y H Q => ∃ a o, y = .ref a ∧ DGet H a x o ∧ Q (.bl o.isSome) H) := by
  intro pins s0 σ0 H x0 y0 v0 u0 Q0 I rx ry h
  obtain ⟨a, o, rfl, g, q⟩ := h
  have eu : u0 = .ref a := ry
  subst eu
  exact d_in hu I g rx fun s3 I3 => ⟨.bl o.isSome, H, I3, rfl, q⟩
theorem op_notInDct (hu : X.A.units + 1 < cLine) : OpR X (compareOp .NotIn) (fun x y H Q => ∃ a o, y = .ref a ∧ DGet H a x o ∧ Q (.bl (!o.isSome)) H) := by
  intro pins s0 σ0 H x0 y0 v0 u0 Q0 I rx ry h
  obtain ⟨a, o, rfl, g, q⟩ := h
  have eu : u0 = .ref a := ry
  subst eu
  exact d_notIn hu I g rx fun s3 I3 => ⟨.bl (!o.isSome), H, I3, rfl, q⟩
theorem vo_inD {p : Addr} {x : V} {o : Option V} (C : Ctx X sc N Vs Ls G k) (g : DGet H p x o) (q : Q (.bl o.isSome) H) : VO X (compareOp .In) x (.ref p) H Q := ⟨_, op_inDct C.hu, p, o, rfl, g, q⟩
theorem vo_notInD {p : Addr} {x : V} {o : Option V} (C : Ctx X sc N Vs Ls G k) (g : DGet H p x o) (q : Q (.bl (!o.isSome)) H) : VO X (compareOp .NotIn) x (.ref p) H Q := ⟨_, op_notInDct C.hu, p, o, rfl, g, q⟩
theorem vc_listD {p : Addr} {kvs : List (Key × V)} (C : Ctx X sc N Vs Ls G k) (hx : H p = some (.dK kvs)) (h : ∀ r H', Kp [] H H' → H r = none → H' r = some (.lst (kvs.map fun kv => kV kv.1)) → Q (.ref r) H') : VC X (.type "list") [.ref p] H Q := ⟨_, call_list_dK C.calm, p, kvs, rfl, hx, new_ h⟩
theorem xe_listRg (C : Ctx X sc N Vs Ls G k) (hg : Mem G "list") (hm : X.mg "list" = none) (hg' : Mem G "range") (hm' : X.mg "range" = none) (h : XE X a σ H fun x H1 => ∃ n, x = .int n ∧ RgOk 0 n ∧ ∀ q H', Kp [] H1 H' → H1 q = none → H' q = some (.lst (rgV 0 n)) → Q (.ref q) H')
    (na : starEach [a] X.env = (false, eval a X.env) :: starEach [] X.env := by rfl) (nb : starEach [Expr.Call (.Name "range" p2) [a] [] p3] X.env = (false, eval (Expr.Call (.Name "range" p2) [a] [] p3) X.env) :: starEach [] X.env := by rfl) : XE X (.Call (.Name "list" p1) [.Call (.Name "range" p2) [a] [] p3] [] pos) σ H Q :=
  ⟨_, pe_listRg C.calm (C.gl hg) hm (prg_1 (C.gl hg') hm' XE.pe na) nb, XE.mono h fun x H1 ⟨n, e, r, q⟩ => ⟨n, e, r, new_ q⟩⟩
end
theorem rgV_ints (n : Int) : rgV 0 n = ((List.range n.toNat).map fun i => ((i : Nat) : Int)).map V.int := by
  unfold rgV
  rw [List.map_map, Int.sub_zero]
  apply List.map_congr_left
  intro i _
  simp
/-! trees -/
/-! where entries part -/
def hf (n : Nat) : Nat := 2 ^ (n - 1).log2
theorem hf_pos (n : Nat) : 0 < hf n := Nat.pow_pos (by decide)
theorem hf_lt {n : Nat} (h : 2 ≤ n) : hf n < n := by
  have := Nat.log2_self_le (n := n - 1) (by omega)
  unfold hf; omega
theorem hf_ge (n : Nat) : n ≤ 2 * hf n := by
  have := Nat.lt_log2_self (n := n - 1)
  unfold hf
  rw [Nat.pow_succ] at this; omega
theorem hf_le {n d : Nat} (h : 2 ≤ n) (hd : n ≤ 2 ^ (d + 1)) : hf n ≤ 2 ^ d := by
  have h1 := hf_lt h
  unfold hf at h1 ⊢
  refine Nat.pow_le_pow_right (by decide) ?_
  have : (n - 1).log2 < d + 1 := (Nat.pow_lt_pow_iff_right (a := 2) (by decide)).mp (by omega)
  omega
theorem rest_le {n d : Nat} (h : 2 ≤ n) (hd : n ≤ 2 ^ (d + 1)) : n - hf n ≤ 2 ^ d := by
  have := hf_le h hd
  have := hf_ge n
  omega
/-- the root of entries -/
def rt (b f : Int) (es : List Int) : Int :=
  if h : 2 ≤ es.length then dig b f [3, rt b f (es.take (hf es.length)), rt b f (es.drop (hf es.length))] else es.headD 0
termination_by es.length
decreasing_by
  · rw [List.length_take]; have := hf_lt h; omega
  · rw [List.length_drop]; have := hf_pos es.length; omega
theorem rt_two {b f : Int} {es : List Int} (h : 2 ≤ es.length) : rt b f es = dig b f [3, rt b f (es.take (hf es.length)), rt b f (es.drop (hf es.length))] := by rw [rt, dif_pos h]
theorem rt_one {b f : Int} {es : List Int} (h : ¬ 2 ≤ es.length) : rt b f es = es.headD 0 := by rw [rt, dif_neg h]
/-- the nodes within, each ahead of those of its parts -/
def nds (b f : Int) (es : List Int) : List (List Int) :=
  if h : 2 ≤ es.length then [3, rt b f (es.take (hf es.length)), rt b f (es.drop (hf es.length))] :: (nds b f (es.take (hf es.length)) ++ nds b f (es.drop (hf es.length))) else []
termination_by es.length
decreasing_by
  · rw [List.length_take]; have := hf_lt h; omega
  · rw [List.length_drop]; have := hf_pos es.length; omega
theorem nds_two {b f : Int} {es : List Int} (h : 2 ≤ es.length) : nds b f es = [3, rt b f (es.take (hf es.length)), rt b f (es.drop (hf es.length))] :: (nds b f (es.take (hf es.length)) ++ nds b f (es.drop (hf es.length))) := by rw [nds, dif_pos h]
theorem nds_one {b f : Int} {es : List Int} (h : ¬ 2 ≤ es.length) : nds b f es = [] := by rw [nds, dif_neg h]
theorem nds_len (b f : Int) : ∀ (d : Nat) (es : List Int), es.length ≤ d → 1 ≤ es.length → (nds b f es).length + 1 = es.length
  | 0, es, h, h1 => by omega
  | d + 1, es, h, h1 => by
    by_cases h2 : 2 ≤ es.length
    · have a := hf_lt h2
      have p := hf_pos es.length
      have i1 := nds_len b f d (es.take (hf es.length)) (by rw [List.length_take]; omega) (by rw [List.length_take]; omega)
      have i2 := nds_len b f d (es.drop (hf es.length)) (by rw [List.length_drop]; omega) (by rw [List.length_drop]; omega)
      rw [List.length_take] at i1
      rw [List.length_drop] at i2
      rw [nds_two h2, List.length_cons, List.length_append]
      omega
    · rw [nds_one h2]; simp; omega
/-- the turns of an index, from the entry up -/
def tn (c i : Nat) : List Bool :=
  if h : 2 ≤ c then (if i < hf c then tn (hf c) i ++ [false] else tn (c - hf c) (i - hf c) ++ [true]) else []
termination_by c
decreasing_by
  · exact hf_lt h
  · have := hf_pos c; omega
theorem tn_lo {c i : Nat} (h : 2 ≤ c) (hi : i < hf c) : tn c i = tn (hf c) i ++ [false] := by rw [tn, dif_pos h, if_pos hi]
theorem tn_hi {c i : Nat} (h : 2 ≤ c) (hi : ¬ i < hf c) : tn c i = tn (c - hf c) (i - hf c) ++ [true] := by rw [tn, dif_pos h, if_neg hi]
theorem tn_one {c i : Nat} (h : ¬ 2 ≤ c) : tn c i = [] := by rw [tn, dif_neg h]
theorem tn_len : ∀ (d c i : Nat), c ≤ 2 ^ d → (tn c i).length ≤ d
  | 0, c, i, h => by rw [tn_one (by simp at h; omega)]; simp
  | d + 1, c, i, h => by
    by_cases h2 : 2 ≤ c
    · by_cases hi : i < hf c
      · have := tn_len d (hf c) i (hf_le h2 h)
        rw [tn_lo h2 hi, List.length_append]; simp; omega
      · have := tn_len d (c - hf c) (i - hf c) (rest_le h2 h)
        rw [tn_hi h2 hi, List.length_append]; simp; omega
    · rw [tn_one h2]; simp
/-- the way of an index -/
def wy (b f : Int) (es : List Int) (i : Nat) : List Int :=
  if h : 2 ≤ es.length then (if i < hf es.length then wy b f (es.take (hf es.length)) i ++ [rt b f (es.drop (hf es.length))] else wy b f (es.drop (hf es.length)) (i - hf es.length) ++ [rt b f (es.take (hf es.length))]) else []
termination_by es.length
decreasing_by
  · rw [List.length_take]; have := hf_lt h; omega
  · rw [List.length_drop]; have := hf_pos es.length; omega
theorem wy_lo {b f : Int} {es : List Int} {i : Nat} (h : 2 ≤ es.length) (hi : i < hf es.length) : wy b f es i = wy b f (es.take (hf es.length)) i ++ [rt b f (es.drop (hf es.length))] := by rw [wy, dif_pos h, if_pos hi]
theorem wy_hi {b f : Int} {es : List Int} {i : Nat} (h : 2 ≤ es.length) (hi : ¬ i < hf es.length) : wy b f es i = wy b f (es.drop (hf es.length)) (i - hf es.length) ++ [rt b f (es.take (hf es.length))] := by rw [wy, dif_pos h, if_neg hi]
theorem wy_one {b f : Int} {es : List Int} {i : Nat} (h : ¬ 2 ≤ es.length) : wy b f es i = [] := by rw [wy, dif_neg h]
theorem wy_len (b f : Int) : ∀ (d : Nat) (es : List Int) (i : Nat), es.length ≤ d → (wy b f es i).length = (tn es.length i).length
  | 0, es, i, h => by rw [wy_one (by omega), tn_one (by omega)]; rfl
  | d + 1, es, i, h => by
    by_cases h2 : 2 ≤ es.length
    · have a := hf_lt h2
      have p := hf_pos es.length
      have lt : (es.take (hf es.length)).length = hf es.length := by rw [List.length_take]; omega
      have ld : (es.drop (hf es.length)).length = es.length - hf es.length := by rw [List.length_drop]
      by_cases hi : i < hf es.length
      · have := wy_len b f d (es.take (hf es.length)) i (by omega)
        rw [wy_lo h2 hi, tn_lo h2 hi, List.length_append, List.length_append, this, lt]; rfl
      · have := wy_len b f d (es.drop (hf es.length)) (i - hf es.length) (by omega)
        rw [wy_hi h2 hi, tn_hi h2 hi, List.length_append, List.length_append, this, ld]; rfl
    · rw [wy_one h2, tn_one h2]; rfl
/-- slices by numbers -/
theorem cut_take (xs : List V) (k : Nat) (h : k ≤ xs.length) : cutV xs none (some (k : Int)) = xs.take k := by
  unfold cutV
  rw [HT.sIx_none, HT.sIx_nat, Nat.min_eq_left h]; simp
theorem cut_drop (xs : List V) (k : Nat) (h : k ≤ xs.length) : cutV xs (some (k : Int)) none = xs.drop k := by
  unfold cutV
  rw [HT.sIx_none, HT.sIx_nat, Nat.min_eq_left h]
  exact List.take_of_length_le (by rw [List.length_drop]; omega)
theorem bits_log {n : Nat} (h : 0 < n) : Builtin.Int.intBits (n : Int) = n.log2 + 1 := by
  unfold Builtin.Int.intBits
  have ne : ((n : Int) == 0) = false := beq_eq_false_iff_ne.mpr (by omega)
  rw [ne]
  simp
/-! tups -/
/-- rows that are tuples of these ints -/
def TupsAt (K : PySem.W.Frag) (H : Hp) (vs : List V) (nss : List (List Int)) : Prop := DpAll K H vs (nss.map fun ns => PyData.tuple (ns.map PyData.int))
theorem dpAll_app {K : PySem.W.Frag} {H : Hp} : ∀ {vs us : List V} {ds es : List PyData}, DpAll K H vs ds → DpAll K H us es → DpAll K H (vs ++ us) (ds ++ es)
  | _, _, _, _, .nil, b => b
  | _, _, _, _, .cons h a, b => .cons h (dpAll_app a b)
theorem TupsAt.app {K : PySem.W.Frag} {H : Hp} {vs us : List V} {a b : List (List Int)} (h : TupsAt K H vs a) (g : TupsAt K H us b) : TupsAt K H (vs ++ us) (a ++ b) := by
  unfold TupsAt
  rw [List.map_append]
  exact dpAll_app h g
theorem TupsAt.kp {K : PySem.W.Frag} {H H' : Hp} {vs : List V} {a : List (List Int)} (h : TupsAt K H vs a) (k : Kp [] H H') : TupsAt K H' vs a := dpAll_kp k h
theorem TupsAt.len {K : PySem.W.Frag} {H : Hp} {vs : List V} {a : List (List Int)} (h : TupsAt K H vs a) : vs.length = a.length := by
  have := dpAll_len h
  rw [this, List.length_map]
theorem len_take {es : List Int} (h : 2 ≤ es.length) : (es.take (hf es.length)).length = hf es.length := by
  have := hf_lt h
  rw [List.length_take]; omega
theorem dpAll_intsInv {K : PySem.W.Frag} {H : Hp} : ∀ {ns : List Int} {vs : List V}, DpAll K H vs (ns.map PyData.int) → vs = ns.map V.int
  | [], _, .nil => rfl
  | n :: ns, _, .cons h a => by
    cases h
    rw [dpAll_intsInv a]; rfl
theorem dp_Tinv {K : PySem.W.Frag} {H : Hp} {v : V} {ns : List Int} (h : Dp K H v (.tuple (ns.map PyData.int))) : ∃ p, v = .ref p ∧ SqT K H p (ns.map V.int) := by
  cases h with
  | tup hx a => exact ⟨_, rfl, by rw [← dpAll_intsInv a]; exact hx⟩
theorem TupsAt.at {K : PySem.W.Frag} {H : Hp} {vs : List V} {nss : List (List Int)} {i : Nat} {v : V} (h : TupsAt K H vs nss) (hv : vs[i]? = some v) : ∃ ns p, nss[i]? = some ns ∧ v = .ref p ∧ SqT K H p (ns.map V.int) := by
  have hi : i < vs.length := (List.getElem?_eq_some_iff.mp hv).1
  have hl := h.len
  have hn : nss[i]? = some nss[i] := List.getElem?_eq_getElem (by omega)
  obtain ⟨v', h1, h2⟩ := dpAll_at h (i := i) (d := .tuple (nss[i].map PyData.int)) (by rw [List.getElem?_map, hn]; rfl)
  rw [hv] at h1
  cases h1
  obtain ⟨p, e, hp⟩ := dp_Tinv h2
  exact ⟨_, p, hn, e, hp⟩
theorem TupsAt.kpA {K : PySem.W.Frag} {H H' : Hp} {A : List Addr} (k : Kp A H H') : ∀ {a : List (List Int)} {vs : List V}, TupsAt K H vs a → TupsAt K H' vs a
  | [], _, .nil => .nil
  | n :: ns, _, .cons h a => by
    obtain ⟨p, rfl, hp⟩ := dp_Tinv h
    exact .cons (dp_T (k.tup hp)) (TupsAt.kpA k a)
/-! climbs -/
/-! a digest and a way climb -/
def nodeOf (s : Bool) (e w : Int) : List Int := if s = true then [3, w, e] else [3, e, w]
def nup (b f : Int) : List Bool → Int → List Int → List (List Int)
  | s :: ss, e, w :: ws => nodeOf s e w :: nup b f ss (dig b f (nodeOf s e w)) ws
  | _, _, _ => []
def cl (b f : Int) : List Bool → Int → List Int → Int
  | s :: ss, e, w :: ws => cl b f ss (dig b f (nodeOf s e w)) ws
  | _, e, _ => e
theorem nodeOf_len (s : Bool) (e w : Int) : (nodeOf s e w).length = 3 := by cases s <;> rfl
theorem nup_nil {b f e : Int} {ws : List Int} : nup b f [] e ws = [] := by simp [nup]
theorem cl_nil {b f e : Int} {ws : List Int} : cl b f [] e ws = e := by simp [cl]
theorem nup_len (b f : Int) : ∀ (ss : List Bool) (e : Int) (ws : List Int), ss.length = ws.length → (nup b f ss e ws).length = ss.length
  | [], e, ws, _ => by rw [nup_nil]; rfl
  | s :: ss, e, [], h => nomatch h
  | s :: ss, e, w :: ws, h => by
    rw [nup, List.length_cons, List.length_cons, nup_len b f ss _ ws (Nat.succ.inj h)]
/-- the last node's digest is the root -/
theorem cl_last (b f : Int) : ∀ (ss : List Bool) (e : Int) (ws : List Int) (n : List Int), (nup b f ss e ws).getLast? = some n → cl b f ss e ws = dig b f n
  | [], e, ws, n, h => by rw [nup_nil] at h; cases h
  | s :: ss, e, [], n, h => by simp [nup] at h
  | s :: ss, e, w :: ws, n, h => by
    rw [nup, List.getLast?_cons] at h
    rw [cl]
    cases g : (nup b f ss (dig b f (nodeOf s e w)) ws).getLast? with
    | some m =>
      rw [g] at h
      rw [cl_last b f ss _ ws m g]
      exact congrArg _ (Option.some.inj h)
    | none =>
      rw [g] at h
      have e1 : nodeOf s e w = n := Option.some.inj h
      have e2 := List.getLast?_eq_none_iff.mp g
      rw [← e1]
      cases ss with
      | nil => rw [cl_nil]
      | cons s' ss =>
        cases ws with
        | nil => simp [cl]
        | cons w' ws => rw [nup] at e2; cases e2
/-! climbs_up -/
/-! a way climbs from its entry to the root -/
theorem cl_snoc (b f : Int) : ∀ (ss : List Bool) (e : Int) (ws : List Int) (s : Bool) (w : Int), ss.length = ws.length → cl b f (ss ++ [s]) e (ws ++ [w]) = dig b f (nodeOf s (cl b f ss e ws) w)
  | [], e, [], s, w, _ => by simp [cl]
  | [], e, _ :: _, s, w, h => nomatch h
  | _ :: _, e, [], s, w, h => nomatch h
  | x :: ss, e, y :: ws, s, w, h => by
    show cl b f (ss ++ [s]) (dig b f (nodeOf x e y)) (ws ++ [w]) = _
    rw [cl_snoc b f ss _ ws s w (Nat.succ.inj h)]
    rfl
theorem cl_wy (b f : Int) : ∀ (d : Nat) (es : List Int) (i : Nat) (x : Int), es.length ≤ d → es[i]? = some x → cl b f (tn es.length i) x (wy b f es i) = rt b f es
  | 0, es, i, x, h, hx => by
    have := (List.getElem?_eq_some_iff.mp hx).1
    omega
  | d + 1, es, i, x, h, hx => by
    have il := (List.getElem?_eq_some_iff.mp hx).1
    by_cases h2 : 2 ≤ es.length
    · have a := hf_lt h2
      have p := hf_pos es.length
      have lt : (es.take (hf es.length)).length = hf es.length := by rw [List.length_take]; omega
      have ld : (es.drop (hf es.length)).length = es.length - hf es.length := by rw [List.length_drop]
      by_cases hi : i < hf es.length
      · have ih := cl_wy b f d (es.take (hf es.length)) i x (by omega) (by rw [List.getElem?_take, if_pos hi]; exact hx)
        have wl := wy_len b f d (es.take (hf es.length)) i (by omega)
        rw [lt] at ih wl
        rw [wy_lo h2 hi, tn_lo h2 hi, cl_snoc b f _ _ _ _ _ wl.symm, ih, rt_two h2]
        rfl
      · have ih := cl_wy b f d (es.drop (hf es.length)) (i - hf es.length) x (by omega) (by rw [List.getElem?_drop, show hf es.length + (i - hf es.length) = i by omega]; exact hx)
        have wl := wy_len b f d (es.drop (hf es.length)) (i - hf es.length) (by omega)
        rw [ld] at ih wl
        rw [wy_hi h2 hi, tn_hi h2 hi, cl_snoc b f _ _ _ _ _ wl.symm, ih, rt_two h2]
        rfl
    · have i0 : i = 0 := by omega
      rw [tn_one h2, wy_one h2, cl_nil, rt_one h2]
      cases es with
      | nil => simp at il
      | cons y ys => rw [i0] at hx; exact (Option.some.inj hx).symm
/-! _first_count -/
section
local macro_rules | `(tactic| wtm_at "d") => `(tactic| fail)
def sp_fc : Sp := fun vs H Q _ => ∃ n : Nat, vs = [.int n] ∧ 2 ≤ n ∧ n < 2 ^ 70 ∧ Q (.int (hf n)) H
theorem ok__first_count (T : Txt P w K mg base) : DefOk P w K mg base "_first_count" ["count"] 1 sp_fc := by
  refine DefOk.by T.d__first_count sc__first_count oc__first_count (fun vs H Q E h => ?_) (fun X e1 e2 e3 e4 e5 C H vs Q E h => ?_)
  · obtain ⟨v, rfl, _⟩ := h; rfl
  · obtain ⟨n, rfl, h2, h64, q⟩ := h
    wtm_at "go"
    wtm_at "w"
    refine xe_bits ?_
    wtm_at "w"
    have e : ((n : Int) - 1) = ((n - 1 : Nat) : Int) := by omega
    rw [e, bits_log (by omega)]
    have l : (n - 1).log2 < 70 := by
      refine (Nat.pow_lt_pow_iff_right (a := 2) (by decide)).mp ?_
      have := Nat.log2_self_le (n := n - 1) (by omega)
      omega
    refine vo_shl ⟨by omega, by omega, by decide⟩ ?_
    have e2 : (1 : Int) * 2 ^ ((((n - 1).log2 + 1 : Nat) : Int) - 1).toNat = (hf n : Int) := by
      have e3 : ((((n - 1).log2 + 1 : Nat) : Int) - 1).toNat = (n - 1).log2 := by omega
      rw [e3, Int.one_mul]; unfold hf; simp
    rw [e2]; exact q
end
/-! _root_and_nodes -/
section
local macro_rules | `(tactic| wtm_at "d") => `(tactic| first | ((with_reducible show Z.XE _ (PySem.Expr.Call (PySem.Expr.Name "len" _) (_ :: _) [] _) _ _ _); refine Z.xe_callB (id := "len") (by assumption) (by wtm_at "m") T.b_len (by decide +kernel) ?_) | ((with_reducible show Z.XE _ (PySem.Expr.Name "NODE" _) _ _ _); refine Z.xe_glob (v := L2.V.int 3) (by assumption) (by wtm_at "m") T.c_NODE.choose_spec ⟨_, rfl⟩ ?_) | ((with_reducible show Z.XE _ (PySem.Expr.Call (PySem.Expr.Name "digest" _) (_ :: _) [] _) _ _ _); refine Z.xe_call (by assumption) (Law.ok_digest T) (by wtm_at "m") (by omega) ?_) | ((with_reducible show Z.XE _ (PySem.Expr.Call (PySem.Expr.Name "_first_count" _) (_ :: _) [] _) _ _ _); refine Z.xe_call (by assumption) (Law.ok__first_count T) (by wtm_at "m") (by omega) ?_) | ((with_reducible show Z.XE _ (PySem.Expr.Call (PySem.Expr.Name "_root_and_nodes" _) (_ :: _) [] _) _ _ _); refine Z.xe_call (by assumption) (Law.ok__root_and_nodes T) (by wtm_at "m") (by omega) ?_) | fail)
def sp_rn (d : Nat) (K : PySem.W.Frag) (C : Addr) : Sp := fun vs H Q _ => ∃ (p e : Addr) (b f : Int) (es : List Int), vs = [.ref p, .ref e] ∧ Mx C H p b f ∧ SqL K H e (es.map V.int) ∧ 1 ≤ es.length ∧ es.length ≤ 2 ^ d ∧ 0 < b ∧
  ∀ (t l : Addr) (us : List V) H', Kp [] H H' → SqT K H' t [.int (rt b f es), .ref l] → H' l = some (.lst us) → TupsAt K H' us (nds b f es) → Q (.ref t) H'
theorem rn_by (T : Txt P w K mg base) (d : Nat) (h9 : d ≤ 9) (ih : 0 < d → DefOk P w K mg base "_root_and_nodes" ["mixing", "entries"] (d + 2) (sp_rn (d - 1) K T.C_Mixing)) : DefOk P w K mg base "_root_and_nodes" ["mixing", "entries"] (d + 2 + 1) (sp_rn d K T.C_Mixing) := by
  refine DefOk.by T.d__root_and_nodes sc__root_and_nodes oc__root_and_nodes (fun vs H Q E h => ?_) (fun X e1 e2 e3 e4 e5 C H vs Q E h => ?_)
  · obtain ⟨p, e, b, f, es, rfl, _⟩ := h; rfl
  · obtain ⟨p, e, b, f, es, rfl, hm, he, l1, ld, hb, q⟩ := h
    have h512 : es.length ≤ 512 := Nat.le_trans ld (Nat.pow_le_pow_right (by decide) h9)
    wtm_at "go"
    wtm_at "w"
    refine ite_b (fun h => ?_) (fun h => ?_)
    · have : es = [] := by simpa using h
      rw [this] at l1; simp at l1
    wtm_at "w"
    rw [List.length_map]
    refine ite_d (fun h1 => ?_) (fun h1 => ?_)
    · have h2 : ¬ 2 ≤ es.length := by omega
      wtm_at "w"
      have h0 : es[0]? = some (es.headD 0) := by
        cases es with
        | nil => simp at l1
        | cons x xs => rfl
      refine vx_lst he (at_map (by decide) h0) ?_
      wtm_at "w"
      intro l H1 k1 nl hl
      wtm_at "w"
      intro t H2 k2 ht _
      refine q t l [] H2 (k1.tr0 k2) (by rw [rt_one h2]; exact ht) (k2.at0 hl) (by rw [nds_one h2]; exact .nil)
    · have h2 : 2 ≤ es.length := by omega
      have d0 : 0 < d := by
        cases d with
        | zero => simp at ld; omega
        | succ d => omega
      obtain ⟨d', rfl⟩ : ∃ d', d = d' + 1 := ⟨d - 1, by omega⟩
      have lt := hf_lt h2
      have lp := hf_pos es.length
      wtm_at "w"
      refine ⟨es.length, by rw [List.length_map], h2, by omega, ?_⟩
      wtm_at "w"
      refine xe_call (by assumption) (ih d0) (by wtm_at "m") (by omega) ?_
      wtm_at "w"
      refine vsl_lst he (fun c1 H1 k1 n1 g1 => ?_)
      rw [cut_take _ _ (by rw [List.length_map]; omega), ← List.map_take] at g1
      wtm_at "w"
      refine ⟨p, c1, b, f, _, rfl, hm.kp k1, Z.SqL.of' g1, by rw [len_take h2]; omega, by rw [len_take h2]; exact hf_le h2 ld, hb, fun t1 m1 us1 H2 k2 ht1 hm1 T1 => ?_⟩
      wtm_at "w"
      refine xg_tup C ⟨t1, _, rfl, ht1, rfl, ?_⟩
      wtm_at "w"
      refine xe_call (by assumption) (ih d0) (by wtm_at "m") (by omega) ?_
      wtm_at "w"
      refine vsl_lst (k2.lst0 (k1.lst0 he)) (fun c2 H3 k3 n3 g3 => ?_)
      rw [cut_drop _ _ (by rw [List.length_map]; omega), ← List.map_drop] at g3
      wtm_at "w"
      refine ⟨p, c2, b, f, _, rfl, ((hm.kp k1).kp k2).kp k3, Z.SqL.of' g3, by rw [List.length_drop]; omega, by rw [List.length_drop]; exact rest_le h2 ld, hb, fun t2 m2 us2 H4 k4 ht2 hm2 T2 => ?_⟩
      wtm_at "w"
      refine xg_tup C ⟨t2, _, rfl, ht2, rfl, ?_⟩
      wtm_at "w"
      intro nd H5 k5 hnd _
      have k35 := (k3.tr0 k4).tr0 k5
      wtm_at "w"
      have hnd' : SqT X.K H5 nd (([3, rt b f (es.take (hf es.length)), rt b f (es.drop (hf es.length))] : List Int).map V.int) := hnd
      refine ⟨p, nd, b, f, _, rfl, ((hm.kp k1).kp k2).kp k35, hnd', hb, ?_⟩
      rw [← rt_two h2]
      wtm_at "w"
      refine ⟨m1, us1, rfl, .inr (Z.SqL.of' (k35.at0 hm1)), ?_⟩
      wtm_at "w"
      refine ⟨m2, us2, rfl, .inr (Z.SqL.of' (k5.at0 hm2)), ?_⟩
      wtm_at "w"
      have L1 := T1.len
      have L2' := T2.len
      have N1 := nds_len b f 600 (es.take (hf es.length)) (by rw [len_take h2]; omega) (by rw [len_take h2]; omega)
      have N2 := nds_len b f 600 (es.drop (hf es.length)) (by rw [List.length_drop]; omega) (by rw [List.length_drop]; omega)
      rw [len_take h2] at N1
      rw [List.length_drop] at N2
      refine ⟨sz_ (by simp; omega), fun r1 H6 k6 n6 g6 => ?_⟩
      wtm_at "w"
      intro t H7 k7 ht _
      refine q t r1 _ H7 (((k1.tr0 k2).tr0 k35).tr0 k6 |>.tr0 k7) ht (k7.at0 g6) ?_
      rw [nds_two h2]
      have T1' := T1.kp ((k35.tr0 k6).tr0 k7)
      have T2' := T2.kp ((k5.tr0 k6).tr0 k7)
      refine .cons (dp_T (k7.tup (k6.tup hnd'))) ?_
      rw [List.append_nil]
      exact T1'.app T2'
theorem rn_ok (T : Txt P w K mg base) : ∀ d, d ≤ 9 → DefOk P w K mg base "_root_and_nodes" ["mixing", "entries"] (d + 2 + 1) (sp_rn d K T.C_Mixing)
  | 0, h => rn_by T 0 h fun h => absurd h (by omega)
  | d + 1, h => rn_by T (d + 1) h fun _ => rn_ok T d (by omega)
end
/-! root_of -/
section
local macro_rules | `(tactic| wtm_at "d") => `(tactic| first | ((with_reducible show Z.XE _ (PySem.Expr.Call (PySem.Expr.Name "_root_and_nodes" _) (_ :: _) [] _) _ _ _); refine Z.xe_call (by assumption) (Law.ok__root_and_nodes T) (by wtm_at "m") (by omega) ?_) | fail)
def sp_root (K : PySem.W.Frag) (C : Addr) : Sp := fun vs H Q _ => ∃ (p e : Addr) (b f : Int) (es : List Int), vs = [.ref p, .ref e] ∧ Mx C H p b f ∧ SqL K H e (es.map V.int) ∧ 1 ≤ es.length ∧ es.length ≤ 512 ∧ 0 < b ∧ ∀ H', Kp [] H H' → Q (.int (rt b f es)) H'
theorem ok_root_of (T : Txt P w K mg base) : DefOk P w K mg base "root_of" ["mixing", "entries"] 13 (sp_root K T.C_Mixing) := by
  refine DefOk.by T.d_root_of sc_root_of oc_root_of (fun vs H Q E h => ?_) (fun X e1 e2 e3 e4 e5 C H vs Q E h => ?_)
  · obtain ⟨p, e, b, f, es, rfl, _⟩ := h; rfl
  · obtain ⟨p, e, b, f, es, rfl, hm, he, l1, ld, hb, q⟩ := h
    wtm_at "go"
    wtm_at "w"
    refine xe_call (by assumption) (rn_ok T 9 (by omega)) (by wtm_at "m") (by omega) ?_
    wtm_at "w"
    refine ⟨p, e, b, f, es, rfl, hm, he, l1, ld, hb, fun t l us H1 k1 ht _ _ => ?_⟩
    wtm_at "w"
    refine xg_tup C ⟨t, _, rfl, ht, rfl, ?_⟩
    wtm_at "w"
    exact q H1 k1
end
/-! turns -/
section
local macro_rules | `(tactic| wtm_at "d") => `(tactic| first | ((with_reducible show Z.XE _ (PySem.Expr.Call (PySem.Expr.Name "_first_count" _) (_ :: _) [] _) _ _ _); refine Z.xe_call (by assumption) (Law.ok__first_count T) (by wtm_at "m") (by omega) ?_) | fail)
def sp_turns : Sp := fun vs H Q _ => ∃ (c i : Nat), vs = [.int c, .int i] ∧ 1 ≤ c ∧ c ≤ 2 ^ 68 ∧ i < c ∧ ∀ p H', Kp [] H H' → H p = none → H' p = some (.lst ((tn c i).map V.bl)) → Q (.ref p) H'
theorem ok_turns (T : Txt P w K mg base) : DefOk P w K mg base "turns" ["count", "index"] 2 sp_turns := by
  refine DefOk.by T.d_turns sc_turns oc_turns (fun vs H Q E h => ?_) (fun X e1 e2 e3 e4 e5 C H vs Q E h => ?_)
  · obtain ⟨c, i, rfl, _⟩ := h; rfl
  · obtain ⟨c, i, rfl, c1, c2, ic, q⟩ := h
    have tl := tn_len 68 c i c2
    wtm_at "go"
    wtm_at "w"
    intro L H1 k1 nL hL
    wtm_at "w"
    -- what is found so far, and the rest of it
    refine xs_while (by assumption) (fun m σ H' => ∃ (s j : Nat) (bs : List Bool) (v1 v2 : Option V), σ = [some (.int c), some (.int i), some (.ref L), some (.int s), some (.int j), v1, v2] ∧ m = s ∧ 1 ≤ s ∧ s ≤ c ∧ j < s ∧ tn c i = tn s j ++ bs.reverse ∧ Kp [] H H' ∧ H' L = some (.lst (bs.map V.bl))) ⟨_, c, i, [], none, none, rfl, rfl, c1, Nat.le_refl _, ic, by simp, k1, hL⟩ ?_
    rintro s σ' H2 ⟨s0, j, bs, v1, v2, rfl, rfl, s1, sc, js, e, k2, h2⟩
    have lb : bs.length ≤ 68 := by
      have := congrArg List.length e
      rw [List.length_append, List.length_reverse] at this; omega
    wtm_at "w"
    refine ite_d (fun h => ?_) (fun h => ?_)
    · have s2 : 2 ≤ s := by omega
      have lt := hf_lt s2
      have lp := hf_pos s
      wtm_at "w"
      refine ⟨s, rfl, s2, by omega, ?_⟩
      wtm_at "w"
      refine ⟨h2, szl (by rw [List.length_map]; omega), fun H3 k3 h3 => ?_⟩
      wtm_at "w"
      refine ite_d (fun hj => ?_) (fun hj => ?_)
      · have hj' : ¬ j < hf s := by omega
        wtm_at "w"
        have e1 : ((j : Int) - (hf s : Int)) = ((j - hf s : Nat) : Int) := by omega
        have e2 : ((s : Int) - (hf s : Int)) = ((s - hf s : Nat) : Int) := by omega
        rw [e1, e2]
        refine ⟨s - hf s, by omega, s - hf s, j - hf s, bs ++ [true], _, _, rfl, rfl, by omega, by omega, by omega, ?_, k2.tr1 k3 (.inr nL), ?_⟩
        · rw [e, tn_hi s2 hj', List.reverse_append]; simp
        · rw [h3, List.map_append, decide_eq_true hj]; rfl
      · have hj' : j < hf s := by omega
        wtm_at "w"
        refine ⟨hf s, lt, hf s, j, bs ++ [false], _, _, rfl, rfl, by omega, by omega, hj', ?_, k2.tr1 k3 (.inr nL), ?_⟩
        · rw [e, tn_lo s2 hj', List.reverse_append]; simp
        · rw [h3, List.map_append, decide_eq_false hj]; rfl
    · wtm_at "w"
      refine ⟨L, _, rfl, Z.SqL.of' h2, fun r H3 k3 n3 h3 => ?_⟩
      refine q r H3 (k2.tr0 k3) (k2.n _ n3) ?_
      rw [h3, e, tn_one (by omega)]; simp
end
/-! way_of -/
section
local macro_rules | `(tactic| wtm_at "d") => `(tactic| first | ((with_reducible show Z.XE _ (PySem.Expr.Call (PySem.Expr.Name "len" _) (_ :: _) [] _) _ _ _); refine Z.xe_callB (id := "len") (by assumption) (by wtm_at "m") T.b_len (by decide +kernel) ?_) | ((with_reducible show Z.XE _ (PySem.Expr.Call (PySem.Expr.Name "tuple" _) (_ :: _) [] _) _ _ _); refine Z.xe_callTy (id := "tuple") (by assumption) (by wtm_at "m") T.b_tuple (by decide +kernel) ?_) | ((with_reducible show Z.XE _ (PySem.Expr.Name "tuple" _) _ _ _); refine Z.xe_ty (id := "tuple") (by assumption) (by wtm_at "m") T.b_tuple (by decide +kernel) ?_) | ((with_reducible show Z.XE _ (PySem.Expr.Call (PySem.Expr.Name "_first_count" _) (_ :: _) [] _) _ _ _); refine Z.xe_call (by assumption) (Law.ok__first_count T) (by wtm_at "m") (by omega) ?_) | ((with_reducible show Z.XE _ (PySem.Expr.Call (PySem.Expr.Name "root_of" _) (_ :: _) [] _) _ _ _); refine Z.xe_call (by assumption) (Law.ok_root_of T) (by wtm_at "m") (by omega) ?_) | ((with_reducible show Z.XE _ (PySem.Expr.Call (PySem.Expr.Name "turns" _) (_ :: _) [] _) _ _ _); refine Z.xe_call (by assumption) (Law.ok_turns T) (by wtm_at "m") (by omega) ?_) | fail)
/-- where a turn leads -/
theorem turn_at {c j t : Nat} {ts : List Bool} {x : Bool} (hd : ts.drop t = (tn c j).reverse) (hx : ts[t]? = some x) : 2 ≤ c ∧ ((x = false ∧ j < hf c ∧ ts.drop (t + 1) = (tn (hf c) j).reverse) ∨ (x = true ∧ ¬ j < hf c ∧ ts.drop (t + 1) = (tn (c - hf c) (j - hf c)).reverse)) := by
  rw [drop_at hx] at hd
  by_cases h2 : 2 ≤ c
  · refine ⟨h2, ?_⟩
    by_cases hj : j < hf c
    · rw [tn_lo h2 hj, List.reverse_append] at hd
      obtain ⟨a, b⟩ := List.cons.inj hd
      exact .inl ⟨a, hj, b⟩
    · rw [tn_hi h2 hj, List.reverse_append] at hd
      obtain ⟨a, b⟩ := List.cons.inj hd
      exact .inr ⟨a, hj, b⟩
  · rw [tn_one h2] at hd; cases hd
def sp_way (K : PySem.W.Frag) (C : Addr) : Sp := fun vs H Q _ => ∃ (p e : Addr) (b f : Int) (es : List Int) (i : Nat), vs = [.ref p, .ref e, .int i] ∧ Mx C H p b f ∧ H e = some (.lst (es.map V.int)) ∧ i < es.length ∧ es.length ≤ 512 ∧ 0 < b ∧ ∀ t H', Kp [] H H' → SqT K H' t ((wy b f es i).map V.int) → Q (.ref t) H'
theorem ok_way_of (T : Txt P w K mg base) : DefOk P w K mg base "way_of" ["mixing", "entries", "index"] 14 (sp_way K T.C_Mixing) := by
  refine DefOk.by T.d_way_of sc_way_of oc_way_of (fun vs H Q E h => ?_) (fun X e1 e2 e3 e4 e5 C H vs Q E h => ?_)
  · obtain ⟨p, e, b, f, es, i, rfl, _⟩ := h; rfl
  · obtain ⟨p, e, b, f, es, i, rfl, hm, he, il, ld, hb, q⟩ := h
    have tl := tn_len 9 es.length i ld
    have wl := wy_len b f 600 es i (by omega)
    wtm_at "go"
    wtm_at "w"
    intro L H1 k1 nL hL
    wtm_at "w"
    refine xs_forL (by assumption) ?_
    wtm_at "w"
    refine ⟨es.length, i, by rw [List.length_map], by omega, by omega, il, fun r1 H2 k2 n2 h2 => ?_⟩
    wtm_at "w"
    refine ⟨r1, _, rfl, Z.SqL.of' h2, fun r2 H3 k3 n3 h3 => ?_⟩
    rw [← List.map_reverse] at h3
    have k13 := (k1.tr0 k2).tr0 k3
    have L3 : H3 L = some (.lst []) := k3.at0 (k2.at0 hL)
    have nr2 : r2 ≠ L := (ne_of_none (k2.at0 hL) n3).symm
    refine ⟨r2, _, rfl, Z.SqL.of' h3, fun t σ H' => ∃ (pr : Addr) (ps ws : List Int) (j : Nat) (v1 v2 v3 v4 v5 : Option V), σ = [some (.ref p), some (.ref e), some (.int i), some (.ref L), some (.ref pr), v1, v2, v3, v4, v5] ∧ Kp [L] H3 H' ∧ H' L = some (.lst (ws.map V.int)) ∧
      SqL X.K H' pr (ps.map V.int) ∧ pr ≠ L ∧ j < ps.length ∧ ps.length ≤ 512 ∧ wy b f es i = wy b f ps j ++ ws.reverse ∧ (tn es.length i).reverse.drop t = (tn ps.length j).reverse, ?_, ?_, ?_, ?_⟩
    · exact ⟨e, es, [], i, none, none, none, none, none, rfl, Kp.refl _ _, L3, Z.SqL.of' (k13.at0 he), ne_of_none he nL, il, ld, by simp, by simp⟩
    · rintro t σ' H' _ ⟨pr, ps, ws, j, v1, v2, v3, v4, v5, rfl, k, _⟩
      exact Z.SqL.of' (k.at1 nr2 h3)
    · rintro t y σ' H4 hy ⟨pr, ps, ws, j, v1, v2, v3, v4, v5, rfl, k4, hL4, hp4, np, jl, pl, ew, et⟩
      obtain ⟨x, hx, rfl⟩ := map_at_bl hy
      obtain ⟨s2, hcase⟩ := turn_at et hx
      have lt := hf_lt s2
      have lp := hf_pos ps.length
      wtm_at "w"
      refine ⟨ps.length, by rw [List.length_map], s2, by omega, ?_⟩
      wtm_at "w"
      refine xs_par C (by wtm_at "m") (by wtm_at "m") (by decide +kernel) (by decide +kernel) (by decide +kernel) ?_
      wtm_at "w"
      refine vsl_lst hp4 (fun c1 H5 k5 n5 g5 => ?_)
      rw [cut_take _ _ (by rw [List.length_map]; omega), ← List.map_take] at g5
      wtm_at "w"
      refine vsl_lst (k5.lst0 hp4) (fun c2 H6 k6 n6 g6 => ?_)
      rw [cut_drop _ _ (by rw [List.length_map]; omega), ← List.map_drop] at g6
      refine ⟨_, _, by wtm_at "u", by wtm_at "u", ?_⟩
      wtm_at "w"
      have L6 : H6 L = some (.lst (ws.map V.int)) := k6.at0 (k5.at0 hL4)
      have lw : ws.length ≤ 20 := by
        have := congrArg List.length ew
        rw [List.length_append, List.length_reverse] at this; omega
      have nc1 : c1 ≠ L := (ne_of_none hL4 n5).symm
      have nc2 : c2 ≠ L := (ne_of_none (k5.at0 hL4) n6).symm
      have k06 : Kp [] H H6 := ((k13.tr1 k4 (.inr nL)).tr0 k5).tr0 k6
      have k36 : Kp [L] H3 H6 := (k4.tr0 k5).tr0 k6
      have g5' := k6.at0 g5
      refine ite_b (fun hx1 => ?_) (fun hx1 => ?_)
      · rcases hcase with ⟨hf0, _⟩ | ⟨_, hj, ht⟩
        · rw [hf0] at hx1; cases hx1
        wtm_at "w"
        intro t7 H7 k7 ht7 _
        refine xg_tup C ⟨t7, _, rfl, ht7, rfl, ?_⟩
        wtm_at "w"
        refine ⟨p, c1, b, f, _, rfl, hm.kp (k06.tr0 k7), Z.SqL.of' (k7.at0 g5'), by rw [len_take s2]; omega, by rw [len_take s2]; omega, hb, fun H8 k8 => ?_⟩
        refine ⟨k8.at0 (k7.at0 L6), szl (by rw [List.length_map]; omega), fun H9 k9 h9 => ?_⟩
        wtm_at "w"
        refine ⟨c2, _, ws ++ [rt b f (ps.take (hf ps.length))], j - hf ps.length, _, _, _, _, _, rfl, ((k36.tr0 k7).tr0 k8).tr1 k9 (.inl (by simp)), by rw [h9, List.map_append]; rfl, Z.SqL.of' (k9.at1 nc2 (k8.at0 (k7.at0 g6))), nc2, ?_, ?_, ?_, ?_⟩
        · rw [List.length_drop]; omega
        · rw [List.length_drop]; omega
        · rw [ew, wy_hi s2 hj, List.reverse_append]; simp
        · rw [ht, List.length_drop]
      · rcases hcase with ⟨_, hj, ht⟩ | ⟨hf0, _⟩
        · wtm_at "w"
          intro t7 H7 k7 ht7 _
          refine xg_tup C ⟨t7, _, rfl, ht7, rfl, ?_⟩
          wtm_at "w"
          refine ⟨p, c2, b, f, _, rfl, hm.kp (k06.tr0 k7), Z.SqL.of' (k7.at0 g6), by rw [List.length_drop]; omega, by rw [List.length_drop]; omega, hb, fun H8 k8 => ?_⟩
          refine ⟨k8.at0 (k7.at0 L6), szl (by rw [List.length_map]; omega), fun H9 k9 h9 => ?_⟩
          wtm_at "w"
          refine ⟨c1, _, ws ++ [rt b f (ps.drop (hf ps.length))], j, _, _, _, _, _, rfl, ((k36.tr0 k7).tr0 k8).tr1 k9 (.inl (by simp)), by rw [h9, List.map_append]; rfl, Z.SqL.of' (k9.at1 nc1 (k8.at0 (k7.at0 g5'))), nc1, ?_, ?_, ?_, ?_⟩
          · rw [len_take s2]; exact hj
          · rw [len_take s2]; omega
          · rw [ew, wy_lo s2 hj, List.reverse_append]; simp
          · rw [ht, len_take s2]
        · rw [hf0] at hx1; cases hx1
    · rintro σ' H4 ⟨pr, ps, ws, j, v1, v2, v3, v4, v5, rfl, k4, hL4, hp4, np, jl, pl, ew, et⟩
      have e0 : (tn ps.length j) = [] := by
        rw [List.length_map, List.length_reverse] at et
        have : ((tn es.length i).reverse).drop (tn es.length i).length = [] := List.drop_eq_nil_of_le (by simp)
        rw [this] at et
        simpa using et.symm
      have e1 : wy b f ps j = [] := by
        have := wy_len b f 600 ps j (by omega)
        rw [e0] at this
        exact List.length_eq_zero_iff.mp this
      rw [e1, List.nil_append] at ew
      wtm_at "w"
      refine ⟨L, _, rfl, Z.SqL.of' hL4, fun r5 H5 k5 n5 h5 => ?_⟩
      wtm_at "w"
      refine vc_tupL (Z.SqL.of' h5) (fun r6 H6 k6 h6 => ?_)
      refine q r6 H6 (((k13.tr1 k4 (.inr nL)).tr0 k5).tr0 k6) ?_
      rw [ew, List.map_reverse]; exact h6
end
/-! _nodes_up -/
section
local macro_rules | `(tactic| wtm_at "d") => `(tactic| first | ((with_reducible show Z.XE _ (PySem.Expr.Name "NODE" _) _ _ _); refine Z.xe_glob (v := L2.V.int 3) (by assumption) (by wtm_at "m") T.c_NODE.choose_spec ⟨_, rfl⟩ ?_) | ((with_reducible show Z.XE _ (PySem.Expr.Call (PySem.Expr.Name "digest" _) (_ :: _) [] _) _ _ _); refine Z.xe_call (by assumption) (Law.ok_digest T) (by wtm_at "m") (by omega) ?_) | ((with_reducible show Z.XE _ (PySem.Expr.Call (PySem.Expr.Name "turns" _) (_ :: _) [] _) _ _ _); refine Z.xe_call (by assumption) (Law.ok_turns T) (by wtm_at "m") (by omega) ?_) | fail)
def sp_nup (K : PySem.W.Frag) (C : Addr) : Sp := fun vs H Q _ => ∃ (p w : Addr) (b f : Int) (c i : Nat) (e : Int) (ws : List Int), vs = [.ref p, .int c, .int i, .int e, .ref w] ∧ Mx C H p b f ∧ SqT K H w (ws.map V.int) ∧ 1 ≤ c ∧ c ≤ 2 ^ 68 ∧ i < c ∧ (tn c i).length = ws.length ∧ 0 < b ∧
  ∀ (l : Addr) (us : List V) H', Kp [] H H' → H l = none → H' l = some (.lst us) → TupsAt K H' us (nup b f (tn c i) e ws) → Q (.ref l) H'
theorem ok__nodes_up (T : Txt P w K mg base) : DefOk P w K mg base "_nodes_up" ["mixing", "count", "index", "entry", "way"] 3 (sp_nup K T.C_Mixing) := by
  refine DefOk.by T.d__nodes_up sc__nodes_up oc__nodes_up (fun vs H Q E h => ?_) (fun X e1 e2 e3 e4 e5 C H vs Q E h => ?_)
  · obtain ⟨p, w, b, f, c, i, e, ws, rfl, _⟩ := h; rfl
  · obtain ⟨p, wa, b, f, c, i, e, ws, rfl, hm, hw, c1, c2, ic, hl, hb, q⟩ := h
    have tl := tn_len 68 c i c2
    wtm_at "go"
    wtm_at "w"
    intro L H1 k1 nL hL
    wtm_at "w"
    refine xs_forZM C (by wtm_at "m") T.b_zip ?_
    wtm_at "w"
    refine ⟨c, i, rfl, c1, c2, ic, fun r H2 k2 nr hr => ?_⟩
    wtm_at "w"
    have k12 := k1.tr0 k2
    have nrL : r ≠ L := (ne_of_none hL nr).symm
    refine ⟨r, wa, _, _, rfl, Z.SqL.of' hr, k12.tup hw, by rw [List.length_map, List.length_map, hl], fun t σ H' => ∃ (x : Int) (us : List V) (ns : List (List Int)) (v1 v2 v3 : Option V), σ = [some (.ref p), some (.int c), some (.int i), some (.int e), some (.ref wa), some (.ref L), some (.int x), v1, v2, v3] ∧ Kp [L] H2 H' ∧ H' L = some (.lst us) ∧
      TupsAt X.K H' us ns ∧ us.length = t ∧ nup b f (tn c i) e ws = ns ++ nup b f ((tn c i).drop t) x (ws.drop t), ⟨e, [], [], none, none, none, rfl, Kp.refl _ _, k2.at0 hL, .nil, rfl, by simp⟩, ?_, ?_, ?_⟩
    · rintro t σ' H' ⟨x, us, ns, v1, v2, v3, rfl, k, _⟩
      exact ⟨k.lst1 nrL (Z.SqL.of' hr), k.tup (k12.tup hw)⟩
    · rintro t y1 y2 T1 σ' H3 H4 hy1 hy2 ⟨x, us, ns, v1, v2, v3, rfl, k3, hL3, hT3, lu, eq⟩ k4 hT
      obtain ⟨s, hs, rfl⟩ := map_at_bl hy1
      obtain ⟨z, hz, rfl⟩ := map_at hy2
      have tt : t < (tn c i).length := (List.getElem?_eq_some_iff.mp hs).1
      rw [drop_at hs, drop_at hz, nup] at eq
      refine xg_tup C ⟨T1, _, rfl, hT, rfl, ?_⟩
      wtm_at "w"
      have kk := k3.tr0 k4
      have step : ∀ (nd : Addr) (H5 : Hp) (nx : St → Hp → Prop) (D : B3), Kp [] H4 H5 → SqT X.K H5 nd ((nodeOf s x z).map V.int) → (∀ σ' H', (∃ (x : Int) (us : List V) (ns : List (List Int)) (v1 v2 v3 : Option V), σ' = [some (.ref p), some (.int c), some (.int i), some (.int e), some (.ref wa), some (.ref L), some (.int x), v1, v2, v3] ∧ Kp [L] H2 H' ∧ H' L = some (.lst us) ∧
          TupsAt X.K H' us ns ∧ us.length = t + 1 ∧ nup b f (tn c i) e ws = ns ++ nup b f ((tn c i).drop (t + 1)) x (ws.drop (t + 1))) → nx σ' H') →
          XB X ((forBody ((defBody s__nodes_up).getD 2 (.Pass ⟨0, 0, 0, 0⟩))).drop 1) nx D [some (.ref p), some (.int c), some (.int i), some (.int e), some (.ref wa), some (.ref L), some (.int x), some (.bl s), some (.int z), some (.ref nd)] H5 := by
        intro nd H5 nx D k5 hnd hnx
        refine xb_cons ?_
        wtm_at "w"
        refine ⟨k5.at0 (k4.at0 hL3), szl (by omega), fun H6 k6 h6 => ?_⟩
        wtm_at "w"
        have k26 := (kk.tr0 k5).tr1 k6 (.inl (by simp))
        have hnd6 := k6.tup hnd
        refine ⟨p, nd, b, f, _, rfl, hm.kp (k12.tr1 k26 (.inr nL)), hnd6, hb, ?_⟩
        wtm_at "w"
        refine hnx _ _ ⟨_, us ++ [.ref nd], ns ++ [nodeOf s x z], _, _, _, rfl, k26, h6, ((hT3.kpA (((Kp.refl [L] H3).tr0 k4 |>.tr0 k5).tr1 k6 (.inl (by simp)))).app (.cons (dp_T hnd6) .nil)), by rw [List.length_append, lu]; rfl, ?_⟩
        rw [eq, List.append_assoc]; rfl
      cases s with
      | true =>
        wtm_at "w"
        intro nd H5 k5 hnd _
        exact ⟨_, by wtm_at "u", step nd H5 _ _ k5 hnd (fun σ' H' h => h)⟩
      | false =>
        wtm_at "w"
        intro nd H5 k5 hnd _
        exact ⟨_, by wtm_at "u", step nd H5 _ _ k5 hnd (fun σ' H' h => h)⟩
    · rintro σ' H3 ⟨x, us, ns, v1, v2, v3, rfl, k3, hL3, hT3, lu, eq⟩
      wtm_at "w"
      refine q L us H3 (k12.tr1 k3 (.inr nL)) nL hL3 ?_
      rw [List.length_map] at eq
      rw [eq, List.drop_eq_nil_of_le (Nat.le_refl _), nup_nil, List.append_nil]
      exact hT3
end
/-! plain -/
mutual
def plainD : PyData → Prop
  | .none | .bool _ | .int _ => True
  | .str _ | .dict _ => False
  | .list ds | .tuple ds => ds.length ≤ 100000 ∧ plainAll ds
def plainAll : List PyData → Prop
  | [] => True
  | d :: ds => plainD d ∧ plainAll ds
end
theorem plain_at : ∀ {ds : List PyData} {i : Nat} {d : PyData}, plainAll ds → ds[i]? = some d → plainD d
  | [], _, _, _, e => by simp at e
  | x :: xs, 0, d, h, e => by
    have e' : x = d := by simpa using e
    rw [plainAll] at h; rw [← e']; exact h.1
  | x :: xs, i + 1, d, h, e => by rw [plainAll] at h; exact plain_at (ds := xs) h.2 (by simpa using e)
theorem plain_ints : ∀ ns : List Int, plainAll (ns.map PyData.int)
  | [] => by simp [plainAll]
  | n :: ns => by simp [plainAll, plainD, plain_ints ns]
/-! data -/
theorem canLay_bls : ∀ bs : List Bool, PyData.canLayAll0 (bs.map PyData.bool) = true
  | [] => by simp [PyData.canLayAll0]
  | n :: ns => by simp [PyData.canLayAll0, PyData.canLay0, canLay_bls ns]
theorem depth_bls : ∀ bs : List Bool, PyData.depthAll (bs.map PyData.bool) = 0
  | [] => by simp [PyData.depthAll]
  | n :: ns => by simp [PyData.depthAll, PyData.depth, depth_bls ns]
theorem plain_bls : ∀ bs : List Bool, plainAll (bs.map PyData.bool)
  | [] => by simp [plainAll]
  | n :: ns => by simp [plainAll, plainD, plain_bls ns]
theorem dpAll_bls {K : PySem.W.Frag} {H : Hp} : ∀ bs : List Bool, DpAll K H (bs.map V.bl) (bs.map PyData.bool)
  | [] => .nil
  | n :: ns => .cons (.bl n) (dpAll_bls ns)
theorem dp_B {K : PySem.W.Frag} {H : Hp} {p : Addr} {bs : List Bool} (h : SqL K H p (bs.map V.bl)) : Dp K H (.ref p) (.list (bs.map PyData.bool)) := .lst h (dpAll_bls bs)
theorem plB (bs : List Bool) (h : bs.length ≤ 100000) : plainD (.list (bs.map PyData.bool)) ∧ (PyData.list (bs.map PyData.bool)).depth ≤ 3 := by
  rw [plainD, PyData.depth, depth_bls, List.length_map]
  exact ⟨⟨h, plain_bls bs⟩, by decide⟩
theorem plT (ns : List Int) (h : ns.length ≤ 100000) : plainD (.tuple (ns.map PyData.int)) ∧ (PyData.tuple (ns.map PyData.int)).depth ≤ 3 := by
  rw [plainD, PyData.depth, depth_ints, List.length_map]
  exact ⟨⟨h, plain_ints ns⟩, by decide⟩
theorem plL (ns : List Int) (h : ns.length ≤ 100000) : plainD (.list (ns.map PyData.int)) ∧ (PyData.list (ns.map PyData.int)).depth ≤ 3 := by
  rw [plainD, PyData.depth, depth_ints, List.length_map]
  exact ⟨⟨h, plain_ints ns⟩, by decide⟩
theorem plI (n : Int) : plainD (.int n) ∧ (PyData.int n).depth ≤ 3 := by
  rw [plainD, PyData.depth]; exact ⟨trivial, by decide⟩
theorem sh2 (as bs : List Int) : SeqAt.shaped (.list [.list (as.map PyData.int), .list (bs.map PyData.int)]) = true := by
  simp [SeqAt.shaped, PyData.canLay0, PyData.canLayAll0, PyData.depth, PyData.depthAll, canLay_ints, depth_ints]
/-! unlike -/
/-! the first nodes that differ -/
def fdiff : List (List Int) → List (List Int) → Option (List Int × List Int)
  | a :: as, b :: bs => if a = b then fdiff as bs else some (a, b)
  | _, _ => none
theorem fdiff_cons (a b : List Int) (as bs : List (List Int)) : fdiff (a :: as) (b :: bs) = if a = b then fdiff as bs else some (a, b) := by rw [fdiff]
theorem fdiff_app : ∀ (as bs cs ds : List (List Int)), as.length = bs.length → fdiff (as ++ cs) (bs ++ ds) = (fdiff as bs).or (fdiff cs ds)
  | [], [], cs, ds, _ => by simp [fdiff]
  | a :: as, b :: bs, cs, ds, h => by
    by_cases e : a = b
    · simp only [List.cons_append, fdiff, if_pos e]
      exact fdiff_app as bs cs ds (by simpa using h)
    · simp [fdiff, if_neg e]
  | [], _ :: _, _, _, h => by simp at h
  | _ :: _, [], _, _, h => by simp at h
/-- the node at the head of entries -/
def hd3 (b f : Int) (es : List Int) : List Int := [3, rt b f (es.take (hf es.length)), rt b f (es.drop (hf es.length))]
theorem fdiff_two {b f : Int} {xs ys : List Int} (h : xs.length = ys.length) (h2 : 2 ≤ xs.length) : fdiff (nds b f xs) (nds b f ys) = if hd3 b f xs = hd3 b f ys then (fdiff (nds b f (xs.take (hf xs.length))) (nds b f (ys.take (hf ys.length)))).or (fdiff (nds b f (xs.drop (hf xs.length))) (nds b f (ys.drop (hf ys.length)))) else some (hd3 b f xs, hd3 b f ys) := by
  have h2' : 2 ≤ ys.length := by omega
  rw [nds_two h2, nds_two h2']
  rw [fdiff_cons]
  show (if hd3 b f xs = hd3 b f ys then _ else some (hd3 b f xs, hd3 b f ys)) = _
  by_cases e : hd3 b f xs = hd3 b f ys
  · rw [if_pos e, if_pos e]
    apply fdiff_app
    have p := hf_pos xs.length
    have l := hf_lt h2
    have n1 := nds_len b f xs.length (xs.take (hf xs.length)) (by rw [List.length_take]; omega) (by rw [List.length_take]; omega)
    have n2 := nds_len b f ys.length (ys.take (hf ys.length)) (by rw [List.length_take]; omega) (by rw [List.length_take, ← h]; omega)
    rw [List.length_take] at n1 n2
    have hh : hf ys.length = hf xs.length := by rw [h]
    omega
  · rw [if_neg e, if_neg e]
theorem fdiff_one {b f : Int} {xs ys : List Int} (h2 : ¬ 2 ≤ xs.length) : fdiff (nds b f xs) (nds b f ys) = none := by rw [nds_one h2]; simp [fdiff]
theorem fdiff_self : ∀ as : List (List Int), fdiff as as = none
  | [] => by simp [fdiff]
  | a :: as => by simp [fdiff, fdiff_self as]
/-- what is told: nothing of equal entries; else two unlike nodes with one digest -/
theorem fdiff_none {b f : Int} : ∀ (n : Nat) (xs ys : List Int), xs.length ≤ n → xs.length = ys.length → 1 ≤ xs.length → rt b f xs = rt b f ys → fdiff (nds b f xs) (nds b f ys) = none → xs = ys
  | 0, xs, ys, h, _, h1, _, _ => by omega
  | n + 1, xs, ys, h, hl, h1, hr, hd => by
    by_cases h2 : 2 ≤ xs.length
    · have p := hf_pos xs.length
      have l := hf_lt h2
      rw [fdiff_two hl h2] at hd
      by_cases e : hd3 b f xs = hd3 b f ys
      · rw [if_pos e] at hd
        have e1 : rt b f (xs.take (hf xs.length)) = rt b f (ys.take (hf ys.length)) := by unfold hd3 at e; simp at e; exact e.1
        have e2 : rt b f (xs.drop (hf xs.length)) = rt b f (ys.drop (hf ys.length)) := by unfold hd3 at e; simp at e; exact e.2
        have hd' := Option.or_eq_none_iff.mp hd
        have i1 := fdiff_none n _ _ (by rw [List.length_take]; omega) (by rw [List.length_take, List.length_take, hl]) (by rw [List.length_take]; omega) e1 hd'.1
        have i2 := fdiff_none n _ _ (by rw [List.length_drop]; omega) (by rw [List.length_drop, List.length_drop, hl]) (by rw [List.length_drop]; omega) e2 hd'.2
        rw [← List.take_append_drop (hf xs.length) xs, ← List.take_append_drop (hf ys.length) ys, i1, i2]
      · rw [if_neg e] at hd; cases hd
    · rw [rt_one h2, rt_one (by omega)] at hr
      cases xs with
      | nil => simp at h1
      | cons x xs =>
        cases ys with
        | nil => simp at hl
        | cons y ys =>
          have a : xs = [] := List.length_eq_zero_iff.mp (by rw [List.length_cons] at h2; omega)
          have b : ys = [] := List.length_eq_zero_iff.mp (by rw [List.length_cons] at h2 hl; rw [List.length_cons] at hl; omega)
          have c : x = y := hr
          rw [a, b, c]
theorem fdiff_some {b f : Int} : ∀ (n : Nat) (xs ys u v : List Int), xs.length ≤ n → xs.length = ys.length → 1 ≤ xs.length → rt b f xs = rt b f ys → fdiff (nds b f xs) (nds b f ys) = some (u, v) → u ≠ v ∧ dig b f u = dig b f v ∧ u.length = 3 ∧ v.length = 3
  | 0, xs, ys, _, _, h, _, h1, _, _ => by omega
  | n + 1, xs, ys, u, v, h, hl, h1, hr, hd => by
    by_cases h2 : 2 ≤ xs.length
    · have p := hf_pos xs.length
      have l := hf_lt h2
      rw [fdiff_two hl h2] at hd
      by_cases e : hd3 b f xs = hd3 b f ys
      · rw [if_pos e] at hd
        have e1 : rt b f (xs.take (hf xs.length)) = rt b f (ys.take (hf ys.length)) := by unfold hd3 at e; simp at e; exact e.1
        have e2 : rt b f (xs.drop (hf xs.length)) = rt b f (ys.drop (hf ys.length)) := by unfold hd3 at e; simp at e; exact e.2
        cases c : fdiff (nds b f (xs.take (hf xs.length))) (nds b f (ys.take (hf ys.length))) with
        | some z =>
          rw [c] at hd
          have : z = (u, v) := by simpa using hd
          exact fdiff_some n _ _ u v (by rw [List.length_take]; omega) (by rw [List.length_take, List.length_take, hl]) (by rw [List.length_take]; omega) e1 (by rw [c, this])
        | none =>
          rw [c] at hd
          exact fdiff_some n _ _ u v (by rw [List.length_drop]; omega) (by rw [List.length_drop, List.length_drop, hl]) (by rw [List.length_drop]; omega) e2 (by simpa using hd)
      · rw [if_neg e] at hd
        have q := Option.some.inj hd
        have q1 : hd3 b f xs = u := congrArg Prod.fst q
        have q2 : hd3 b f ys = v := congrArg Prod.snd q
        rw [← q1, ← q2]
        refine ⟨e, ?_, rfl, rfl⟩
        have r1 := rt_two (b := b) (f := f) h2
        have r2 := rt_two (b := b) (f := f) (show 2 ≤ ys.length by omega)
        show dig b f (hd3 b f xs) = dig b f (hd3 b f ys)
        unfold hd3
        rw [← r1, ← r2]; exact hr
    · rw [fdiff_one h2] at hd; cases hd
/-- as data -/
def unD : Option (List Int × List Int) → PyData
  | none => .none
  | some (a, b) => .tuple [.tuple (a.map PyData.int), .tuple (b.map PyData.int)]
/-! unlike_up -/
/-! the first nodes of two ways that differ -/
theorem fdiff_nil : ∀ (as bs : List (List Int)), as.length = bs.length → fdiff as bs = none → as = bs
  | [], [], _, _ => rfl
  | [], _ :: _, h, _ => nomatch h
  | _ :: _, [], h, _ => nomatch h
  | a :: as, b :: bs, h, e => by
    rw [fdiff_cons] at e
    by_cases c : a = b
    · rw [if_pos c] at e
      rw [c, fdiff_nil as bs (Nat.succ.inj h) e]
    · rw [if_neg c] at e; cases e
theorem nodeOf_inj {s : Bool} {e w e' w' : Int} (h : nodeOf s e w = nodeOf s e' w') : e = e' ∧ w = w' := by
  cases s with
  | true => simp [nodeOf] at h; exact ⟨h.2, h.1⟩
  | false => simp [nodeOf] at h; exact h
theorem nup_inj (b f : Int) : ∀ (ss : List Bool) (e e' : Int) (ws us : List Int), ss.length = ws.length → ss.length = us.length → nup b f ss e ws = nup b f ss e' us → ws = us ∧ (ss ≠ [] → e = e')
  | [], e, e', ws, us, h, g, _ => by
    have a : ws = [] := List.length_eq_zero_iff.mp h.symm
    have c : us = [] := List.length_eq_zero_iff.mp g.symm
    exact ⟨by rw [a, c], fun z => absurd rfl z⟩
  | s :: ss, e, e', [], us, h, g, q => nomatch h
  | s :: ss, e, e', w :: ws, [], h, g, q => nomatch g
  | s :: ss, e, e', w :: ws, u :: us, h, g, q => by
    rw [nup, nup] at q
    obtain ⟨q1, q2⟩ := List.cons.inj q
    obtain ⟨a, c⟩ := nodeOf_inj q1
    have := (nup_inj b f ss _ _ ws us (Nat.succ.inj h) (Nat.succ.inj g) q2).1
    exact ⟨by rw [c, this], fun _ => a⟩
theorem up_none (b f : Int) (ss : List Bool) (e e' : Int) (ws us : List Int) (h : ss.length = ws.length) (g : ss.length = us.length) (n : ss ≠ []) (q : fdiff (nup b f ss e ws).reverse (nup b f ss e' us).reverse = none) : e = e' ∧ ws = us := by
  have l1 := nup_len b f ss e ws h
  have l2 := nup_len b f ss e' us g
  have := fdiff_nil _ _ (by simp [l1, l2]) q
  have := nup_inj b f ss e e' ws us h g (List.reverse_inj.mp this)
  exact ⟨this.2 n, this.1⟩
theorem up_some (b f : Int) : ∀ (ss : List Bool) (e e' : Int) (ws us u v : List Int), ss.length = ws.length → ss.length = us.length → cl b f ss e ws = cl b f ss e' us → fdiff (nup b f ss e ws).reverse (nup b f ss e' us).reverse = some (u, v) → u ≠ v ∧ dig b f u = dig b f v ∧ u.length = 3 ∧ v.length = 3
  | [], e, e', ws, us, u, v, _, _, _, q => by rw [nup_nil, nup_nil] at q; simp [fdiff] at q
  | s :: ss, e, e', [], us, u, v, h, g, c, q => nomatch h
  | s :: ss, e, e', w :: ws, [], u, v, h, g, c, q => nomatch g
  | s :: ss, e, e', w :: ws, x :: us, u, v, h, g, c, q => by
    have h' := Nat.succ.inj h
    have g' := Nat.succ.inj g
    rw [nup, nup, List.reverse_cons, List.reverse_cons, fdiff_app _ _ _ _ (by simp [nup_len b f ss _ ws h', nup_len b f ss _ us g'])] at q
    rw [cl, cl] at c
    cases d : fdiff (nup b f ss (dig b f (nodeOf s e w)) ws).reverse (nup b f ss (dig b f (nodeOf s e' x)) us).reverse with
    | some z =>
      rw [d] at q
      have : z = (u, v) := by simpa using q
      exact up_some b f ss _ _ ws us u v h' g' c (by rw [d, this])
    | none =>
      rw [d] at q
      have q' : fdiff [nodeOf s e w] [nodeOf s e' x] = some (u, v) := by simpa using q
      rw [fdiff_cons] at q'
      by_cases k : nodeOf s e w = nodeOf s e' x
      · rw [if_pos k] at q'; simp [fdiff] at q'
      · rw [if_neg k] at q'
        have z := Option.some.inj q'
        have z1 : nodeOf s e w = u := congrArg Prod.fst z
        have z2 : nodeOf s e' x = v := congrArg Prod.snd z
        rw [← z1, ← z2]
        refine ⟨k, ?_, nodeOf_len _ _ _, nodeOf_len _ _ _⟩
        by_cases n : ss = []
        · subst n; rw [cl_nil, cl_nil] at c; exact c
        · exact (up_none b f ss _ _ ws us h' g' n d).1
theorem TupsAt.rev {K : PySem.W.Frag} {H : Hp} : ∀ {vs : List V} {a : List (List Int)}, TupsAt K H vs a → TupsAt K H vs.reverse a.reverse
  | [], [], _ => .nil
  | v :: vs, n :: ns, .cons h a => by
    rw [List.reverse_cons, List.reverse_cons]
    exact (TupsAt.rev a).app (.cons h .nil)
/-- a pair of a digest and a way -/
def PairAt (K : PySem.W.Frag) (H : Hp) (p : Addr) (e : Int) (ws : List Int) : Prop := ∃ q, SqT K H p [.int e, .ref q] ∧ SqT K H q (ws.map V.int)
theorem PairAt.kp {K : PySem.W.Frag} {H H' : Hp} {A : List Addr} {p : Addr} {e : Int} {ws : List Int} (h : PairAt K H p e ws) (k : Kp A H H') : PairAt K H' p e ws := by
  obtain ⟨q, a, b⟩ := h
  exact ⟨q, k.tup a, k.tup b⟩
theorem PairAt.dp {K : PySem.W.Frag} {H : Hp} {p : Addr} {e : Int} {ws : List Int} (h : PairAt K H p e ws) : Dp K H (.ref p) (.tuple [.int e, .tuple (ws.map PyData.int)]) := by
  obtain ⟨q, a, b⟩ := h
  exact .tup a (.cons (.int e) (.cons (dp_T b) .nil))
theorem shP (e : Int) (ws : List Int) : SeqAt.shaped (.tuple [.int e, .tuple (ws.map PyData.int)]) = true := by
  simp [SeqAt.shaped, PyData.canLay0, PyData.canLayAll0, PyData.depth, PyData.depthAll, canLay_ints, depth_ints]
theorem eqv_P (e e' : Int) (ws us : List Int) : PyData.eqv (.tuple [.int e, .tuple (ws.map PyData.int)]) (.tuple [.int e', .tuple (us.map PyData.int)]) = decide (e = e' ∧ ws = us) := by
  rw [PyData.eqv, PyData.eqvAll, PyData.eqvAll, eqv_T]
  simp only [PyData.eqv, PyData.eqvAll, Bool.and_true, Bool.decide_and]
  rfl
/-! unlike_data -/
theorem unD_non {K : PySem.W.Frag} {H : Hp} {v : V} {o : Option (List Int × List Int)} (h : Dp K H v (unD o)) : (v = .non ↔ o = none) := by
  cases o with
  | none => cases h; simp
  | some z =>
    obtain ⟨a, b⟩ := z
    cases h with
    | tup _ _ => simp
theorem noRefs {p : Addr} {us : List V} : ∀ ns : List Int, HO.lst (.ref p :: us) ≠ .lst (ns.map V.int) := by
  intro ns e
  have e2 : V.ref p :: us = ns.map V.int := HO.lst.inj e
  cases ns with
  | nil => cases e2
  | cons n ns => rw [List.map_cons] at e2; exact nomatch (List.cons.inj e2).1
theorem plU {o : Option (List Int × List Int)} (h : ∀ u v, o = some (u, v) → u.length = 3 ∧ v.length = 3) : plainD (unD o) ∧ (unD o).depth ≤ 3 := by
  cases o with
  | none => exact ⟨by simp [unD, plainD], by simp [unD, PyData.depth]⟩
  | some z =>
    obtain ⟨u, v⟩ := z
    have := h u v rfl
    refine ⟨?_, by simp [unD, PyData.depth, PyData.depthAll, depth_ints]⟩
    unfold unD
    simp only [plainD, plainAll, List.length_map, List.length_cons, List.length_nil]
    exact ⟨by omega, ⟨by omega, plain_ints _⟩, ⟨by omega, plain_ints _⟩, trivial⟩
/-! bkin -/
theorem bkTo_at {n : Int} {c : Nat} {t : Nat} {x : Int} (h : (bkTo n c)[t]? = some x) : t < c ∧ x = n - 2 ^ t := by
  unfold bkTo at h
  rw [List.getElem?_map] at h
  by_cases z : t < c
  · rw [List.getElem?_range z] at h
    exact ⟨z, (Option.some.inj h).symm⟩
  · rw [List.getElem?_eq_none (by simp; omega)] at h
    cases h
theorem bkTo_in {m : Nat} {t : Nat} {x : Int} (h : (bkTo (m : Int) (cntB m))[t]? = some x) : 0 ≤ x ∧ x.toNat < m := by
  obtain ⟨z, rfl⟩ := bkTo_at h
  have := ((cnt_lt (n := (m : Int)) (by omega) t).mp z).1
  have p : (0 : Int) < 2 ^ t := by rw [← cast_pow]; exact_mod_cast Nat.pow_pos (by decide)
  omega
/-! _first_difference -/
section
local macro_rules | `(tactic| wtm_at "d") => `(tactic| fail)
def sp_fd (K : PySem.W.Frag) : Sp := fun vs H Q _ => ∃ (p q : Addr) (us ws : List V) (as bs : List (List Int)), vs = [.ref p, .ref q] ∧ SqL K H p us ∧ SqL K H q ws ∧ TupsAt K H us as ∧ TupsAt K H ws bs ∧ as.length = bs.length ∧ ∀ v H', Kp [] H H' → Dp K H' v (unD (fdiff as bs)) → Q v H'
theorem ok__first_difference (T : Txt P w K mg base) : DefOk P w K mg base "_first_difference" ["one_nodes", "two_nodes"] 1 (sp_fd K) := by
  refine DefOk.by T.d__first_difference sc__first_difference oc__first_difference (fun vs H Q E h => ?_) (fun X e1 e2 e3 e4 e5 C H vs Q E h => ?_)
  · obtain ⟨p, q, us, ws, as, bs, rfl, _⟩ := h; rfl
  · obtain ⟨p, q, us, ws, as, bs, rfl, hp, hq, ha, hb, hl, z⟩ := h
    have la := ha.len
    have lb := hb.len
    wtm_at "go"
    refine xs_forZ C (by wtm_at "m") T.b_zip ?_
    wtm_at "w"
    refine ⟨p, q, us, ws, rfl, hp, hq, by omega, fun i σ H' => ∃ v1 v2, σ = [some (.ref p), some (.ref q), v1, v2] ∧ Kp [] H H' ∧ fdiff as bs = fdiff (as.drop i) (bs.drop i), ⟨_, _, rfl, Kp.refl _ _, by simp⟩, ?_, ?_, ?_⟩
    · rintro i σ' H' ⟨v1, v2, rfl, k, _⟩
      exact ⟨k.lst0 hp, k.lst0 hq⟩
    · rintro i x y T1 σ' H1 H2 hx hy ⟨v1, v2, rfl, k, e⟩ k2 hT
      obtain ⟨na, pa, h1, rfl, h2⟩ := ha.at hx
      obtain ⟨nb, pb, h3, rfl, h4⟩ := hb.at hy
      have kk := k.tr0 k2
      rw [drop_at h1, drop_at h3, fdiff_cons] at e
      refine xg_tup C ⟨T1, _, rfl, hT, rfl, ?_⟩
      wtm_at "w"
      refine vo_neT C (kk.tup h2) (kk.tup h4) ?_
      wtm_at "w"
      refine ite_nd (fun h => ?_) (fun h => ?_)
      · rw [if_neg h] at e
        wtm_at "w"
        intro t H3 k3 ht _
        refine z _ H3 (kk.tr0 k3) ?_
        rw [e]
        exact .tup ht (.cons (dp_T (k3.tup (kk.tup h2))) (.cons (dp_T (k3.tup (kk.tup h4))) .nil))
      · rw [if_pos h] at e
        wtm_at "w"
        exact ⟨_, _, rfl, kk, e⟩
    · rintro σ' H' ⟨v1, v2, rfl, k, e⟩
      rw [la, List.drop_eq_nil_of_le (Nat.le_refl _)] at e
      wtm_at "w"
      refine z _ H' k ?_
      rw [e]
      simp [fdiff, unD]
      exact .non
end
/-! clash_of_ways -/
section
local macro_rules | `(tactic| wtm_at "d") => `(tactic| first | ((with_reducible show Z.XE _ (PySem.Expr.Call (PySem.Expr.Name "_nodes_up" _) (_ :: _) [] _) _ _ _); refine Z.xe_call (by assumption) (Law.ok__nodes_up T) (by wtm_at "m") (by omega) ?_) | ((with_reducible show Z.XE _ (PySem.Expr.Call (PySem.Expr.Name "_first_difference" _) (_ :: _) [] _) _ _ _); refine Z.xe_call (by assumption) (Law.ok__first_difference T) (by wtm_at "m") (by omega) ?_) | fail)
def sp_cways (K : PySem.W.Frag) (C : Addr) : Sp := fun vs H Q _ => ∃ (p t1 t2 : Addr) (b f : Int) (c i : Nat) (e1 e2 : Int) (w1 w2 : List Int), vs = [.ref p, .int c, .int i, .ref t1, .ref t2] ∧ Mx C H p b f ∧ PairAt K H t1 e1 w1 ∧ PairAt K H t2 e2 w2 ∧ 1 ≤ c ∧ c ≤ 2 ^ 60 ∧ i < c ∧ (tn c i).length = w1.length ∧ (tn c i).length = w2.length ∧ 0 < b ∧
  ∀ v H', Kp [] H H' → Dp K H' v (unD (fdiff (nup b f (tn c i) e1 w1).reverse (nup b f (tn c i) e2 w2).reverse)) → Q v H'
theorem ok_clash_of_ways (T : Txt P w K mg base) : DefOk P w K mg base "clash_of_ways" ["mixing", "count", "index", "one", "two"] 4 (sp_cways K T.C_Mixing) := by
  refine DefOk.by T.d_clash_of_ways sc_clash_of_ways oc_clash_of_ways (fun vs H Q E h => ?_) (fun X e1 e2 e3 e4 e5 C H vs Q E h => ?_)
  · obtain ⟨p, t1, t2, b, f, c, i, e1, e2, w1, w2, rfl, _⟩ := h; rfl
  · obtain ⟨p, t1, t2, b, f, c, i, x1, x2, w1, w2, rfl, hm, ⟨q1, h1, g1⟩, ⟨q2, h2, g2⟩, c1, c2, ic, l1, l2, hb, q⟩ := h
    wtm_at "go"
    wtm_at "w"
    refine xg_tup C ⟨t1, _, rfl, h1, rfl, ?_⟩
    wtm_at "w"
    refine xg_tup C ⟨t2, _, rfl, h2, rfl, ?_⟩
    wtm_at "w"
    refine ⟨p, q1, b, f, c, i, x1, w1, rfl, hm, g1, c1, Nat.le_trans c2 (by decide), ic, l1, hb, fun a1 us1 H1 k1 _ n1 T1 => ?_⟩
    wtm_at "w"
    refine ⟨p, q2, b, f, c, i, x2, w2, rfl, hm.kp k1, k1.tup g2, c1, Nat.le_trans c2 (by decide), ic, l2, hb, fun a2 us2 H2 k2 _ n2 T2 => ?_⟩
    wtm_at "w"
    refine ⟨a1, _, rfl, Z.SqL.of' (k2.at0 n1), fun r1 H3 k3 _ h3 => ?_⟩
    wtm_at "w"
    refine ⟨a2, _, rfl, Z.SqL.of' (k3.at0 n2), fun r2 H4 k4 _ h4 => ?_⟩
    have k24 := k3.tr0 k4
    have n1 := nup_len b f _ x1 w1 l1
    have n2 := nup_len b f _ x2 w2 l2
    wtm_at "w"
    exact ⟨r1, r2, _, _, _, _, rfl, Z.SqL.of' (k4.at0 h3), Z.SqL.of' h4, ((T1.kp k2).kp k24).rev, (T2.kp k24).rev, by simp [n1, n2], fun v H5 k5 hv => q v H5 (((k1.tr0 k2).tr0 k24).tr0 k5) hv⟩
end
/-! clash_of_entries -/
section
local macro_rules | `(tactic| wtm_at "d") => `(tactic| first | ((with_reducible show Z.XE _ (PySem.Expr.Call (PySem.Expr.Name "_root_and_nodes" _) (_ :: _) [] _) _ _ _); refine Z.xe_call (by assumption) (Law.ok__root_and_nodes T) (by wtm_at "m") (by omega) ?_) | ((with_reducible show Z.XE _ (PySem.Expr.Call (PySem.Expr.Name "_first_difference" _) (_ :: _) [] _) _ _ _); refine Z.xe_call (by assumption) (Law.ok__first_difference T) (by wtm_at "m") (by omega) ?_) | fail)
def sp_clash (K : PySem.W.Frag) (C : Addr) : Sp := fun vs H Q _ => ∃ (p e g : Addr) (b f : Int) (xs ys : List Int), vs = [.ref p, .ref e, .ref g] ∧ Mx C H p b f ∧ SqL K H e (xs.map V.int) ∧ SqL K H g (ys.map V.int) ∧ 1 ≤ xs.length ∧ xs.length ≤ 512 ∧ xs.length = ys.length ∧ 0 < b ∧
  ∀ v H', Kp [] H H' → Dp K H' v (unD (fdiff (nds b f xs) (nds b f ys))) → Q v H'
theorem ok_clash_of_entries (T : Txt P w K mg base) : DefOk P w K mg base "clash_of_entries" ["mixing", "one", "two"] 13 (sp_clash K T.C_Mixing) := by
  refine DefOk.by T.d_clash_of_entries sc_clash_of_entries oc_clash_of_entries (fun vs H Q E h => ?_) (fun X e1 e2 e3 e4 e5 C H vs Q E h => ?_)
  · obtain ⟨p, e, g, b, f, xs, ys, rfl, _⟩ := h; rfl
  · obtain ⟨p, e, g, b, f, xs, ys, rfl, hm, he, hg, l1, ld, hl, hb, q⟩ := h
    wtm_at "go"
    wtm_at "w"
    refine xe_call (by assumption) (rn_ok T 9 (by omega)) (by wtm_at "m") (by omega) ?_
    wtm_at "w"
    refine ⟨p, e, b, f, xs, rfl, hm, he, l1, ld, hb, fun t l us H1 k1 ht hl1 T1 => ?_⟩
    wtm_at "w"
    refine xg_tup C ⟨t, _, rfl, ht, rfl, ?_⟩
    wtm_at "w"
    refine xe_call (by assumption) (rn_ok T 9 (by omega)) (by wtm_at "m") (by omega) ?_
    wtm_at "w"
    refine ⟨p, g, b, f, ys, rfl, hm.kp k1, k1.lst0 hg, by omega, by omega, hb, fun t' l' us' H2 k2 ht' hl2 T2 => ?_⟩
    wtm_at "w"
    refine xg_tup C ⟨t', _, rfl, ht', rfl, ?_⟩
    wtm_at "w"
    have n1 := nds_len b f 600 xs (by omega) l1
    have n2 := nds_len b f 600 ys (by omega) (by omega)
    exact ⟨l, l', us, us', _, _, rfl, Z.SqL.of' (k2.at0 hl1), Z.SqL.of' hl2, T1.kp k2, T2, by omega, fun v H3 k3 hv => q v H3 ((k1.tr0 k2).tr0 k3) hv⟩
end
/-! _greatest_step -/
section
local macro_rules | `(tactic| wtm_at "d") => `(tactic| fail)
def sp_gs : Sp := fun vs H Q _ => ∃ n : Int, vs = [.int n] ∧ Q (.int (Builtin.bitAnd n (-n))) H
theorem ok__greatest_step (T : Txt P w K mg base) : DefOk P w K mg base "_greatest_step" ["number"] 1 sp_gs := by
  refine DefOk.by T.d__greatest_step sc__greatest_step oc__greatest_step (fun vs H Q E h => ?_) (fun X e1 e2 e3 e4 e5 C H vs Q E h => ?_)
  · obtain ⟨v, rfl, _⟩ := h; rfl
  · obtain ⟨v, rfl, q⟩ := h
    wtm_at "go"
    wtm_at "w"
    exact vo_and q
end
/-! _back_count -/
section
local macro_rules | `(tactic| wtm_at "d") => `(tactic| first | ((with_reducible show Z.XE _ (PySem.Expr.Call (PySem.Expr.Name "_greatest_step" _) (_ :: _) [] _) _ _ _); refine Z.xe_call (by assumption) (Law.ok__greatest_step T) (by wtm_at "m") (by omega) ?_) | fail)
def sp_bc : Sp := fun vs H Q _ => ∃ n : Int, vs = [.int n] ∧ Q (.int (cntB n)) H
theorem ok__back_count (T : Txt P w K mg base) : DefOk P w K mg base "_back_count" ["number"] 2 sp_bc := by
  refine DefOk.by T.d__back_count sc__back_count oc__back_count (fun vs H Q E h => ?_) (fun X e1 e2 e3 e4 e5 C H vs Q E h => ?_)
  · obtain ⟨v, rfl, _⟩ := h; rfl
  · obtain ⟨v, rfl, q⟩ := h
    wtm_at "go"
    wtm_at "w"
    refine xe_bits ?_
    wtm_at "w"
    refine ⟨v, rfl, _, rfl, ?_⟩
    exact q
end
/-! is_thing -/
section
local macro_rules | `(tactic| wtm_at "d") => `(tactic| first | ((with_reducible show Z.XE _ (PySem.Expr.Call (PySem.Expr.Name "len" _) (_ :: _) [] _) _ _ _); refine Z.xe_callB (id := "len") (by assumption) (by wtm_at "m") T.b_len (by decide +kernel) ?_) | ((with_reducible show Z.XE _ (PySem.Expr.Name "BEACON" _) _ _ _); refine Z.xe_glob (v := L2.V.int 1) (by assumption) (by wtm_at "m") T.c_BEACON.choose_spec ⟨_, rfl⟩ ?_) | ((with_reducible show Z.XE _ (PySem.Expr.Name "DOCUMENT" _) _ _ _); refine Z.xe_glob (v := L2.V.int 2) (by assumption) (by wtm_at "m") T.c_DOCUMENT.choose_spec ⟨_, rfl⟩ ?_) | ((with_reducible show Z.XE _ (PySem.Expr.Name "HEAD" _) _ _ _); refine Z.xe_glob (v := L2.V.int 4) (by assumption) (by wtm_at "m") T.c_HEAD.choose_spec ⟨_, rfl⟩ ?_) | ((with_reducible show Z.XE _ (PySem.Expr.Name "RENEWAL" _) _ _ _); refine Z.xe_glob (v := L2.V.int 5) (by assumption) (by wtm_at "m") T.c_RENEWAL.choose_spec ⟨_, rfl⟩ ?_) | ((with_reducible show Z.XE _ (PySem.Expr.Call (PySem.Expr.Name "_is_document" _) (_ :: _) [] _) _ _ _); refine Z.xe_call (by assumption) (Law.ok__is_document T) (by wtm_at "m") (by omega) ?_) | ((with_reducible show Z.XE _ (PySem.Expr.Call (PySem.Expr.Name "_is_head" _) (_ :: _) [] _) _ _ _); refine Z.xe_call (by assumption) (Law.ok__is_head T) (by wtm_at "m") (by omega) ?_) | ((with_reducible show Z.XE _ (PySem.Expr.Call (PySem.Expr.Name "_back_count" _) (_ :: _) [] _) _ _ _); refine Z.xe_call (by assumption) (Law.ok__back_count T) (by wtm_at "m") (by omega) ?_) | fail)
def sp_isdoc (K : PySem.W.Frag) : Sp := fun vs H Q _ => ∃ (p : Addr) (ns : List Int), vs = [.ref p] ∧ SqT K H p (ns.map V.int) ∧ Q (.bl (decide (2 ≤ ns.length ∧ 2 + ns.getD 1 0 ≤ ns.length))) H
theorem ok__is_document (T : Txt P w K mg base) : DefOk P w K mg base "_is_document" ["row"] 1 (sp_isdoc K) := by
  refine DefOk.by T.d__is_document sc__is_document oc__is_document (fun vs H Q E h => ?_) (fun X e1 e2 e3 e4 e5 C H vs Q E h => ?_)
  · obtain ⟨p, ns, rfl, _⟩ := h; rfl
  · obtain ⟨p, ns, rfl, hr, q⟩ := h
    wtm_at "go"
    wtm_at "w"
    rw [List.length_map]
    refine ite_d (fun h => ?_) (fun h => ?_)
    · wtm_at "w"
      refine vx_tup hr (at_getD 1 (by omega)) ?_
      wtm_at "w"
      have e : decide (ns.getD 1 0 ≤ ((ns.map V.int).length : Int) - 2) = decide (2 ≤ ns.length ∧ 2 + ns.getD 1 0 ≤ ns.length) := by
        rw [List.length_map]; apply decide_eq_decide.mpr; omega
      rw [e]; exact q
    · have e : decide ((2 : Int) ≤ (ns.length : Int)) = decide (2 ≤ ns.length ∧ 2 + ns.getD 1 0 ≤ ns.length) := by
        apply decide_eq_decide.mpr; omega
      rw [e]; exact q
def sp_ishead (K : PySem.W.Frag) : Sp := fun vs H Q _ => ∃ (p : Addr) (ns : List Int), vs = [.ref p] ∧ SqT K H p (ns.map V.int) ∧ Q (.bl (decide (6 ≤ ns.length ∧ 1 ≤ ns.getD 4 0 ∧ ns.length = 6 + cntB (ns.getD 2 0)))) H
theorem ok__is_head (T : Txt P w K mg base) : DefOk P w K mg base "_is_head" ["row"] 3 (sp_ishead K) := by
  refine DefOk.by T.d__is_head sc__is_head oc__is_head (fun vs H Q E h => ?_) (fun X e1 e2 e3 e4 e5 C H vs Q E h => ?_)
  · obtain ⟨p, ns, rfl, _⟩ := h; rfl
  · obtain ⟨p, ns, rfl, hr, q⟩ := h
    wtm_at "go"
    wtm_at "w"
    rw [List.length_map]
    refine ite_d (fun h => ?_) (fun h => ?_)
    · wtm_at "w"
      have e : false = decide (6 ≤ ns.length ∧ 1 ≤ ns.getD 4 0 ∧ ns.length = 6 + cntB (ns.getD 2 0)) := by
        symm; apply decide_eq_false; omega
      rw [e]; exact q
    · wtm_at "w"
      refine vx_tup hr (at_getD 2 (by omega)) ?_
      wtm_at "w"
      refine vx_tup hr (at_getD 4 (by omega)) ?_
      wtm_at "w"
      refine ite_d (fun h' => ?_) (fun h' => ?_)
      · wtm_at "w"
        refine ⟨_, rfl, ?_⟩
        wtm_at "w"
        have e : decide ((((ns.map V.int).length : Int) - 6) = (cntB (ns.getD 2 0) : Int)) = decide (6 ≤ ns.length ∧ 1 ≤ ns.getD 4 0 ∧ ns.length = 6 + cntB (ns.getD 2 0)) := by
          rw [List.length_map]; apply decide_eq_decide.mpr; omega
        rw [e]; exact q
      · have e : decide (1 ≤ ns.getD 4 0) = decide (6 ≤ ns.length ∧ 1 ≤ ns.getD 4 0 ∧ ns.length = 6 + cntB (ns.getD 2 0)) := by
          apply decide_eq_decide.mpr; omega
        rw [e]; exact q
def sp_isthing (K : PySem.W.Frag) : Sp := fun vs H Q _ => ∃ (p : Addr) (ns : List Int), vs = [.ref p] ∧ SqT K H p (ns.map V.int) ∧ Q (.bl (isThing ns)) H
theorem ok_is_thing (T : Txt P w K mg base) : DefOk P w K mg base "is_thing" ["row"] 4 (sp_isthing K) := by
  refine DefOk.by T.d_is_thing sc_is_thing oc_is_thing (fun vs H Q E h => ?_) (fun X e1 e2 e3 e4 e5 C H vs Q E h => ?_)
  · obtain ⟨p, ns, rfl, _⟩ := h; rfl
  · obtain ⟨p, ns, rfl, hr, q⟩ := h
    have fin : ∀ b, b = isThing ns → Q (.bl b) H := fun b e => by rw [e]; exact q
    wtm_at "go"
    wtm_at "w"
    refine ite_b (fun h => ?_) (fun h => ?_)
    · wtm_at "w"
      refine fin _ ?_
      have : ns = [] := by simpa using h
      rw [this]; rfl
    · have hl : ns.length ≠ 0 := by
        intro e
        have : ns = [] := List.length_eq_zero_iff.mp e
        rw [this] at h; simp at h
      wtm_at "w"
      refine vx_tup hr (at_getD 0 (by omega)) ?_
      wtm_at "w"
      refine ite_d (fun h1 => ?_) (fun h1 => ?_)
      · wtm_at "w"
        refine fin _ ?_
        unfold isThing
        rw [if_neg hl, if_pos h1, List.length_map]
        apply decide_eq_decide.mpr; omega
      · wtm_at "w"
        refine ite_d (fun h2 => ?_) (fun h2 => ?_)
        · wtm_at "w"
          refine ⟨p, ns, rfl, hr, ?_⟩
          refine fin _ ?_
          unfold isThing
          rw [if_neg hl, if_neg h1, if_pos h2]
        · wtm_at "w"
          refine ite_d (fun h3 => ?_) (fun h3 => ?_)
          · wtm_at "w"
            refine ⟨p, ns, rfl, hr, ?_⟩
            refine fin _ ?_
            unfold isThing
            rw [if_neg hl, if_neg h1, if_neg h2, if_pos h3]
          · wtm_at "w"
            have e : isThing ns = decide (ns.getD 0 0 = 5 ∧ ns.length = 2) := by
              unfold isThing
              rw [if_neg hl, if_neg h1, if_neg h2, if_neg h3]
            refine ite_d (fun h4 => ?_) (fun h4 => ?_)
            · wtm_at "w"
              refine fin _ ?_
              rw [e, List.length_map]
              apply decide_eq_decide.mpr; omega
            · refine fin _ ?_
              rw [e]
              apply decide_eq_decide.mpr; omega
end
/-! kind_of -/
section
local macro_rules | `(tactic| wtm_at "d") => `(tactic| fail)
def sp_kind (K : PySem.W.Frag) : Sp := fun vs H Q _ => ∃ (p : Addr) (ns : List Int), vs = [.ref p] ∧ SqT K H p (ns.map V.int) ∧ 0 < ns.length ∧ Q (.int (ns.getD 0 0)) H
theorem ok_kind_of (T : Txt P w K mg base) : DefOk P w K mg base "kind_of" ["row"] 1 (sp_kind K) := by
  refine DefOk.by T.d_kind_of sc_kind_of oc_kind_of (fun vs H Q E h => ?_) (fun X e1 e2 e3 e4 e5 C H vs Q E h => ?_)
  · obtain ⟨p, ns, rfl, _⟩ := h; rfl
  · obtain ⟨p, ns, rfl, hr, hl, q⟩ := h
    wtm_at "go"
    wtm_at "w"
    exact vx_tup hr (at_getD 0 (by omega)) q
end
/-! whyv -/
def whyV : Option Str → V
  | none => .non
  | some w => .str w
/-! noL -/
mutual
def noL : PyData → Bool
  | .list _ => false
  | .tuple ds => noLs ds
  | _ => true
def noLs : List PyData → Bool
  | [] => true
  | d :: ds => noL d && noLs ds
end
mutual
theorem dp_kpT {K : PySem.W.Frag} {H H' : Hp} {A : List Addr} (k : Kp A H H') : ∀ {d : PyData} {v : V}, noL d = true → Dp K H v d → Dp K H' v d
  | _, _, _, .non => .non
  | _, _, _, .bl b => .bl b
  | _, _, _, .int i => .int i
  | _, _, _, .str x => .str x
  | _, _, n, .lst h a => by simp [noL] at n
  | _, _, n, .tup h a => .tup (k.tup h) (dpAll_kpT k (by simpa [noL] using n) a)
theorem dpAll_kpT {K : PySem.W.Frag} {H H' : Hp} {A : List Addr} (k : Kp A H H') : ∀ {ds : List PyData} {vs : List V}, noLs ds = true → DpAll K H vs ds → DpAll K H' vs ds
  | _, _, _, .nil => .nil
  | _, _, n, .cons h a => by
    simp only [noLs, Bool.and_eq_true] at n
    exact .cons (dp_kpT k n.1 h) (dpAll_kpT k n.2 a)
end
theorem noLs_ints : ∀ ns : List Int, noLs (ns.map PyData.int) = true
  | [] => rfl
  | n :: ns => by rw [List.map_cons, noLs, noLs_ints ns]; rfl
theorem noLs_take : ∀ {ds : List PyData} (t : Nat), noLs ds = true → noLs (ds.take t) = true
  | [], t, _ => by simp [noLs]
  | d :: ds, 0, _ => rfl
  | d :: ds, t + 1, h => by
    simp only [noLs, Bool.and_eq_true] at h
    rw [List.take_succ_cons, noLs, h.1, noLs_take t h.2]; rfl
/-! strs -/
/-! texts that are compared; data taken apart -/
section
variable {X : Cx} {H : Hp} {Q : VK} {a b : Str}
theorem vo_eqS (h : Q (.bl (decide (a = b))) H) : VO X (compareOp .Eq) (.str a) (.str b) H Q := by
  refine ⟨_, op_eq, rfl, ?_⟩
  have e : decide (V.str a = V.str b) = decide (a = b) := by by_cases e : a = b <;> simp [e]
  rw [e]; exact h
theorem vo_neS (h : Q (.bl (!decide (a = b))) H) : VO X (compareOp .NotEq) (.str a) (.str b) H Q := by
  refine ⟨_, op_ne, rfl, ?_⟩
  have e : decide (V.str a = V.str b) = decide (a = b) := by by_cases e : a = b <;> simp [e]
  rw [e]; exact h
end
local macro_rules | `(tactic| wtm_at "v") => `(tactic| first | (with_reducible refine Law.vo_eqS ?_) | (with_reducible refine Law.vo_neS ?_) | fail)
theorem dp_tupI {K : PySem.W.Frag} {H : Hp} {v : V} {ds : List PyData} (h : Dp K H v (.tuple ds)) : ∃ p vs, v = .ref p ∧ SqT K H p vs ∧ DpAll K H vs ds := by
  cases h with
  | tup h a => exact ⟨_, _, rfl, h, a⟩
theorem dp_lstI {K : PySem.W.Frag} {H : Hp} {v : V} {ds : List PyData} (h : Dp K H v (.list ds)) : ∃ p vs, v = .ref p ∧ SqL K H p vs ∧ DpAll K H vs ds := by
  cases h with
  | lst h a => exact ⟨_, _, rfl, h, a⟩
theorem dpAll2 {K : PySem.W.Frag} {H : Hp} {vs : List V} {a b : PyData} (h : DpAll K H vs [a, b]) : ∃ x y, vs = [x, y] ∧ Dp K H x a ∧ Dp K H y b := by
  cases h with
  | cons h1 h => cases h with
    | cons h2 h => cases h; exact ⟨_, _, rfl, h1, h2⟩
theorem dpAll3 {K : PySem.W.Frag} {H : Hp} {vs : List V} {a b c : PyData} (h : DpAll K H vs [a, b, c]) : ∃ x y z, vs = [x, y, z] ∧ Dp K H x a ∧ Dp K H y b ∧ Dp K H z c := by
  cases h with
  | cons h1 h => cases h with
    | cons h2 h => cases h with
      | cons h3 h => cases h; exact ⟨_, _, _, rfl, h1, h2, h3⟩
theorem dp_strI {K : PySem.W.Frag} {H : Hp} {v : V} {s : Str} (h : Dp K H v (.str s)) : v = .str s := by cases h; rfl
theorem dp_intI {K : PySem.W.Frag} {H : Hp} {v : V} {s : Int} (h : Dp K H v (.int s)) : v = .int s := by cases h; rfl
/-! isthP -/
/-! things by their kind -/
theorem isThing_pos {rs : List Int} (h : isThing rs = true) : 0 < rs.length := by
  cases rs with
  | nil => simp [isThing] at h
  | cons x r => simp
theorem isThing_hd {rs : List Int} (h : isThing rs = true) (e : rs.getD 0 0 = 4) : 6 ≤ rs.length ∧ 1 ≤ rs.getD 4 0 ∧ rs.length = 6 + cntB (rs.getD 2 0) := by
  have p := isThing_pos h
  unfold isThing at h
  rw [if_neg (by omega), if_neg (by omega), if_neg (by omega), if_pos e] at h
  exact of_decide_eq_true h
theorem isThing_doc {rs : List Int} (h : isThing rs = true) (e : rs.getD 0 0 = 2) : 2 ≤ rs.length ∧ 2 + rs.getD 1 0 ≤ rs.length := by
  have p := isThing_pos h
  unfold isThing at h
  rw [if_neg (by omega), if_neg (by omega), if_pos e] at h
  exact of_decide_eq_true h
theorem cut46g {rs : List Int} (h : 6 ≤ rs.length) : cutV (rs.map V.int) (some 4) (some 6) = [.int (rs.getD 4 0), .int (rs.getD 5 0)] := by
  match rs, h with
  | a :: b :: c :: d :: e :: g :: r, _ =>
    unfold cutV
    have l : ((a :: b :: c :: d :: e :: g :: r).map V.int).length = 6 + r.length := by simp; omega
    rw [l]
    rw [show HT.sIx (6 + r.length) 0 (some 4) = 4 by rw [show (4 : Int) = ((4 : Nat) : Int) from rfl, HT.sIx_nat]; omega, show HT.sIx (6 + r.length) (6 + r.length) (some 6) = 6 by rw [show (6 : Int) = ((6 : Nat) : Int) from rfl, HT.sIx_nat]; omega]
    rfl
/-! linksP -/
/-! places; what a thing holds there -/
structure Pl where
  w : Str
  i : Int
  way : List Int
def plD (p : Pl) : PyData := .tuple (if p.w = ("entry" : Str) then [.str p.w, .int p.i, .tuple (p.way.map PyData.int)] else [.str p.w, .int p.i])
def PlAt (K : PySem.W.Frag) (H : Hp) (a : Addr) (p : Pl) : Prop := ∃ r, SqT K H a (.str p.w :: .int p.i :: r) ∧ (p.w = ("entry" : Str) → ∃ wa, r = [.ref wa] ∧ SqT K H wa (p.way.map V.int))
theorem PlAt.kp {K : PySem.W.Frag} {A : List Addr} {H H' : Hp} {a : Addr} {p : Pl} (h : PlAt K H a p) (k : Kp A H H') : PlAt K H' a p := by
  obtain ⟨r, h1, h2⟩ := h
  exact ⟨r, k.tup h1, fun e => by obtain ⟨wa, e1, e2⟩ := h2 e; exact ⟨wa, e1, k.tup e2⟩⟩
theorem PlAt.of {K : PySem.W.Frag} {H : Hp} {v : V} {p : Pl} (h : Dp K H v (plD p)) : ∃ a, v = .ref a ∧ PlAt K H a p := by
  obtain ⟨a, vs, rfl, h1, h2⟩ := dp_tupI h
  refine ⟨a, rfl, ?_⟩
  by_cases e : p.w = ("entry" : Str)
  · rw [if_pos e] at h2
    obtain ⟨x, y, z, rfl, d1, d2, d3⟩ := dpAll3 h2
    rw [dp_strI d1, dp_intI d2] at h1
    obtain ⟨wa, rfl, hw⟩ := dp_Tinv d3
    exact ⟨_, h1, fun _ => ⟨wa, rfl, hw⟩⟩
  · rw [if_neg e] at h2
    obtain ⟨x, y, rfl, d1, d2⟩ := dpAll2 h2
    rw [dp_strI d1, dp_intI d2] at h1
    exact ⟨_, h1, fun z => absurd z e⟩
theorem cut2 (x y : V) (r : List V) : cutV (x :: y :: r) none (some 2) = [x, y] := by
  have := cut_take (x :: y :: r) 2 (by simp)
  rw [show ((2 : Nat) : Int) = 2 from rfl] at this
  rw [this]; rfl
/-- what a thing lists at a word -/
def listN (rs : List Int) (w : Str) : List Int := if w = ("cite" : Str) ∧ rs.getD 0 0 = 2 then (rs.drop 2).take (rs.getD 1 0).toNat else if w = ("back" : Str) ∧ rs.getD 0 0 = 4 then rs.drop 6 else []
def hasPl (rs : List Int) (p : Pl) : Bool := if p.w = ("entry" : Str) then decide (rs.getD 0 0 = 4 ∧ 0 ≤ p.i ∧ p.i < rs.getD 4 0) else decide (0 ≤ p.i ∧ p.i < (listN rs p.w).length)
def heldO (rs : List Int) (p : Pl) : Option Int := if p.w = ("entry" : Str) ∨ hasPl rs p = false then none else some ((listN rs p.w).getD p.i.toNat 0)
def climbO (n f : Int) (c i : Nat) (d : Int) (w : List Int) : Option Int := if (tn c i).length = w.length then some (cl n f (tn c i) d w) else none
def holdsB (n f : Int) (rs : List Int) (p : Pl) (d : Int) : Bool := if p.w = ("entry" : Str) then hasPl rs p && decide (climbO n f (rs.getD 4 0).toNat p.i.toNat d p.way = some (rs.getD 5 0)) else decide (heldO rs p = some d)
def rrB (bs rs : List Int) (p : Pl) : Bool := if p.w = ("back" : Str) then decide (bs.getD 0 0 = 4 ∧ bs.getD 1 0 = rs.getD 1 0 ∧ bs.getD 2 0 = rs.getD 2 0 - 2 ^ p.i.toNat ∧ bs.getD 3 0 < rs.getD 3 0) else true
structure RowOk (rs : List Int) : Prop where
  len : rs.length ≤ 10000
  one : 0 ≤ rs.getD 1 0
  four : rs.getD 0 0 = 4 → rs.getD 4 0 ≤ 2 ^ 68
def optV : Option Int → V
  | none => .non
  | some i => .int i
theorem cut_doc {rs : List Int} (h2 : 2 ≤ rs.length) (h1 : 0 ≤ rs.getD 1 0) : cutV (rs.map V.int) (some 2) (some (2 + rs.getD 1 0)) = ((rs.drop 2).take (rs.getD 1 0).toNat).map V.int := by
  generalize rs.getD 1 0 = c at h1 ⊢
  obtain ⟨c, rfl⟩ := Int.eq_ofNat_of_zero_le h1
  unfold cutV
  rw [show (2 : Int) + (c : Int) = ((2 + c : Nat) : Int) by omega, show (2 : Int) = ((2 : Nat) : Int) from rfl, HT.sIx_nat, HT.sIx_nat, List.length_map, Nat.min_eq_left h2, List.map_take, List.map_drop, Int.toNat_natCast]
  rw [List.take_eq_take_iff, List.length_drop, List.length_map]
  omega
theorem cut_six {rs : List Int} (h : 6 ≤ rs.length) : cutV (rs.map V.int) (some 6) none = (rs.drop 6).map V.int := by
  have := cut_drop (rs.map V.int) 6 (by rw [List.length_map]; exact h)
  rw [show ((6 : Nat) : Int) = 6 from rfl] at this
  rw [this, List.map_drop]
theorem cut14 {rs : List Int} (h : 4 ≤ rs.length) : cutV (rs.map V.int) (some 1) (some 4) = [.int (rs.getD 1 0), .int (rs.getD 2 0), .int (rs.getD 3 0)] := by
  match rs, h with
  | a :: b :: c :: d :: r, _ =>
    unfold cutV
    have l : ((a :: b :: c :: d :: r).map V.int).length = 4 + r.length := by simp; omega
    rw [l]
    rw [show HT.sIx (4 + r.length) 0 (some 1) = 1 by rw [show (1 : Int) = ((1 : Nat) : Int) from rfl, HT.sIx_nat]; omega, show HT.sIx (4 + r.length) (4 + r.length) (some 4) = 4 by rw [show (4 : Int) = ((4 : Nat) : Int) from rfl, HT.sIx_nat]; omega]
    rfl
theorem hasPl_back {rs : List Int} {p : Pl} (h : hasPl rs p = true) (hb : p.w = ("back" : Str)) : rs.getD 0 0 = 4 ∧ 0 ≤ p.i ∧ p.i < ((rs.drop 6).length : Int) := by
  unfold hasPl at h
  rw [if_neg (by rw [hb]; decide +kernel)] at h
  obtain ⟨h1, h2⟩ := of_decide_eq_true h
  unfold listN at h2
  rw [if_neg (fun z => absurd (hb.symm.trans z.1) (by decide +kernel))] at h2
  by_cases e : rs.getD 0 0 = 4
  · rw [if_pos ⟨hb, e⟩] at h2
    exact ⟨e, h1, h2⟩
  · rw [if_neg (fun z => e z.2)] at h2
    simp at h2; omega
/-! listed -/
section
local macro_rules | `(tactic| wtm_at "d") => `(tactic| first | ((with_reducible show Z.XE _ (PySem.Expr.Name "DOCUMENT" _) _ _ _); refine Z.xe_glob (v := L2.V.int 2) (by assumption) (by wtm_at "m") T.c_DOCUMENT.choose_spec ⟨_, rfl⟩ ?_) | ((with_reducible show Z.XE _ (PySem.Expr.Name "HEAD" _) _ _ _); refine Z.xe_glob (v := L2.V.int 4) (by assumption) (by wtm_at "m") T.c_HEAD.choose_spec ⟨_, rfl⟩ ?_) | ((with_reducible show Z.XE _ (PySem.Expr.Name "CITE" _) _ _ _); refine Z.xe_glob (v := L2.V.str "cite") (by assumption) (by wtm_at "m") T.c_CITE.choose_spec ⟨_, rfl⟩ ?_) | ((with_reducible show Z.XE _ (PySem.Expr.Name "BACK" _) _ _ _); refine Z.xe_glob (v := L2.V.str "back") (by assumption) (by wtm_at "m") T.c_BACK.choose_spec ⟨_, rfl⟩ ?_) | ((with_reducible show Z.XE _ (PySem.Expr.Call (PySem.Expr.Name "kind_of" _) (_ :: _) [] _) _ _ _); refine Z.xe_call (by assumption) (Law.ok_kind_of T) (by wtm_at "m") (by omega) ?_) | fail)
def sp_listed (K : PySem.W.Frag) : Sp := fun vs H Q _ => ∃ (a : Addr) (rs : List Int) (w : Str), vs = [.ref a, .str w] ∧ SqT K H a (rs.map V.int) ∧ isThing rs = true ∧ RowOk rs ∧ ∀ p H', Kp [] H H' → SqT K H' p ((listN rs w).map V.int) → Q (.ref p) H'
theorem ok_listed (T : Txt P w K mg base) : DefOk P w K mg base "listed" ["row", "word"] 2 (sp_listed K) := by
  refine DefOk.by T.d_listed sc_listed oc_listed (fun vs H Q E h => ?_) (fun X e1 e2 e3 e4 e5 C H vs Q E h => ?_)
  · obtain ⟨a, rs, w, rfl, _⟩ := h; rfl
  · obtain ⟨a, rs, w, rfl, hr, th, ro, q⟩ := h
    have hp := isThing_pos th
    have l0 : listN rs w = if w = ("cite" : Str) ∧ rs.getD 0 0 = 2 then (rs.drop 2).take (rs.getD 1 0).toNat else if w = ("back" : Str) ∧ rs.getD 0 0 = 4 then rs.drop 6 else [] := rfl
    wtm_at "go"
    wtm_at "w"
    refine ⟨a, rs, rfl, hr, hp, ?_⟩
    refine ⟨_, by wtm_at "u", ?_⟩
    have rest : ¬ (w = ("cite" : Str) ∧ rs.getD 0 0 = 2) → XB X ((defBody s_listed).drop 2) (fun _ H' => Q .non H') ⟨Q, fun _ _ => False, fun _ _ => False⟩ [some (.ref a), some (.str w), some (.int (rs.getD 0 0))] H := by
      intro c0
      rw [if_neg c0] at l0
      have e0 : ¬ (w = ("back" : Str) ∧ rs.getD 0 0 = 4) → ∀ p H', Kp [] H H' → SqT X.K H' p [] → Q (.ref p) H' := fun c1 p H' k h => q p H' k (by rw [l0, if_neg c1]; exact h)
      refine xb_cons ?_
      wtm_at "w"
      refine ite_d (fun h1 => ?_) (fun h1 => ?_)
      · wtm_at "w"
        refine ite_d (fun h2 => ?_) (fun h2 => ?_)
        · rw [if_pos ⟨h1, h2⟩] at l0
          obtain ⟨h6, _⟩ := isThing_hd th h2
          wtm_at "w"
          refine vsl_tup hr (fun p H1 k1 h => ?_)
          rw [cut_six h6] at h
          exact q p H1 k1 (by rw [l0]; exact h)
        · wtm_at "w"
          exact fun p H1 k1 h _ => e0 (fun z => h2 z.2) p H1 k1 h
      · wtm_at "w"
        exact fun p H1 k1 h _ => e0 (fun z => h1 z.1) p H1 k1 h
    refine xb_cons ?_
    wtm_at "w"
    refine ite_d (fun h1 => ?_) (fun h1 => ?_)
    · wtm_at "w"
      refine ite_d (fun h2 => ?_) (fun h2 => ?_)
      · rw [if_pos ⟨h1, h2⟩] at l0
        obtain ⟨h6, _⟩ := isThing_doc th h2
        wtm_at "w"
        refine vx_tup hr (at_getD 1 (by omega)) ?_
        wtm_at "w"
        refine vsl_tup hr (fun p H1 k1 h => ?_)
        rw [cut_doc h6 ro.one] at h
        exact q p H1 k1 (by rw [l0]; exact h)
      · refine xb_nil (rest (fun z => h2 z.2))
    · refine xb_nil (rest (fun z => h1 z.1))
end
/-! step -/
/-! a step's fault -/
def stepWhy (n f : Int) (bs rs : List Int) (p : Pl) : Option Str :=
  if isThing rs = true then (if hasPl rs p = true then (if holdsB n f rs p (dig n f bs) = true then (if rrB bs rs p = true then none else some ("another round" : Str)) else some ("not this digest" : Str)) else some ("no such place" : Str)) else some ("not a thing" : Str)
abbrev Stp := List Int × Pl
def stpD (s : Stp) : PyData := .tuple [.tuple (s.1.map PyData.int), plD s.2]
def ffault (n f : Int) : Nat → List Int → List Stp → Option (Nat × Str)
  | _, _, [] => none
  | k, bs, s :: r => match stepWhy n f bs s.1 s.2 with
    | some w => some (k, w)
    | none => ffault n f (k + 1) s.1 r
def papFault (n f : Int) (first : List Int) (ss : List Stp) : Option (Nat × Str) := if isThing first = true then ffault n f 1 first ss else some (0, ("not a thing" : Str))
/-- steps that are links, one behind the other -/
def okW (n f : Int) : List Int → List Stp → Prop
  | _, [] => True
  | bs, s :: r => stepWhy n f bs s.1 s.2 = none ∧ okW n f s.1 r
def lastR : List Int → List Stp → List Int
  | bs, [] => bs
  | _, s :: r => lastR s.1 r
theorem okW.ff {n f : Int} : ∀ {ss : List Stp} {bs : List Int} (k : Nat), okW n f bs ss → ffault n f k bs ss = none
  | [], _, _, _ => rfl
  | s :: r, bs, k, h => by rw [ffault, h.1]; exact okW.ff (k + 1) h.2
theorem lastR_at : ∀ (ss : List Stp) (bs : List Int), (bs :: ss.map (·.1))[ss.length]? = some (lastR bs ss)
  | [], bs => rfl
  | s :: r, bs => by
    show (s.1 :: r.map (·.1))[r.length]? = _
    exact lastR_at r s.1
theorem lastR_app : ∀ (a b : List Stp) (bs : List Int), lastR bs (a ++ b) = lastR (lastR bs a) b
  | [], b, bs => rfl
  | s :: r, b, bs => lastR_app r b s.1
theorem okW_app {n f : Int} : ∀ {a b : List Stp} {bs : List Int}, okW n f bs a → okW n f (lastR bs a) b → okW n f bs (a ++ b)
  | [], _, _, _, h => h
  | s :: r, b, bs, h, g => ⟨h.1, okW_app h.2 g⟩
/-! papF -/
section
local macro_rules | `(tactic| wtm_at "d") => `(tactic| first | ((with_reducible show Z.XE _ (PySem.Expr.Call (PySem.Expr.Name "list" _) (_ :: _) [] _) _ _ _); refine Z.xe_callTy (id := "list") (by assumption) (by wtm_at "m") T.b_list (by decide +kernel) ?_) | ((with_reducible show Z.XE _ (PySem.Expr.Name "list" _) _ _ _); refine Z.xe_ty (id := "list") (by assumption) (by wtm_at "m") T.b_list (by decide +kernel) ?_) | fail)
def papF (fr : V) (st : Addr) : List (Str × V) := putF "steps" (.ref st) (putF "first" fr [])
theorem pap_f (fr : V) (st : Addr) : (papF fr st).lookup ("first" : Str) = some fr := by
  unfold papF; rw [lookup_putF, if_neg (by decide +kernel), lookup_putF, if_pos rfl]
theorem pap_s (fr : V) (st : Addr) : (papF fr st).lookup ("steps" : Str) = some (.ref st) := by
  unfold papF; rw [lookup_putF, if_pos rfl]
def sp_Paper (K : PySem.W.Frag) (C : Addr) : Sp := fun vs H Q _ => ∃ (z dx l : Addr) (fr : V) (xs : List V), vs = [.ref z, fr, .ref l] ∧ H z = some (.ins C dx []) ∧ SqL K H l xs ∧ ∀ st H', Kp [z] H H' → H' z = some (.ins C dx (papF fr st)) → H st = none → H' st = some (.lst xs) → Q .non H'
theorem ok_Paper (T : Txt P w K mg base) : ClsOk P w K mg base "Paper" T.C_Paper ["self", "first", "steps"] 1 (sp_Paper K T.C_Paper) := by
  obtain ⟨f, fd, M, F, b⟩ := T.mk_Paper
  refine ⟨f, fd, fnOk_by F sc_Paper___init__ oc_Paper___init__ (fun vs H Q E h => ?_) (fun X e1 e2 e3 e4 e5 C H vs Q E h => ?_), T.mg_Paper, M, b⟩
  · obtain ⟨z, dx, l, fr, xs, rfl, _⟩ := h; rfl
  · obtain ⟨z, dx, l, fr, xs, rfl, h1, hl, q⟩ := h
    wtm_at "go"
    refine xs_fld ?_
    wtm_at "w"
    refine ⟨z, _, dx, _, rfl, h1, T.cl_Paper, T.na_Paper_first, by decide, fun H1 k1 e1 => ?_⟩
    have hl1 : SqL X.K H1 l xs := by
      rcases hl with (h | ⟨o, h⟩) | h
      · exact .inl (.inl (k1.at1 (fun e => by rw [e, h1] at h; cases h) h))
      · exact .inl (.inr ⟨o, k1.z _ _ _ h⟩)
      · exact .inr h
    wtm_at "w"
    refine xs_fld ?_
    wtm_at "w"
    refine vc_listL hl1 (fun st H2 k2 n2 h2 => ?_)
    wtm_at "w"
    refine ⟨z, _, dx, _, rfl, k2.at0 e1, T.cl_Paper, T.na_Paper_steps, by show 1 < 1000; decide, fun H3 k3 e3 => ?_⟩
    wtm_at "w"
    exact q st H3 ((k1.tr0 k2).tr1 k3 (.inl (by simp))) e3 (k1.n _ n2) (k3.at1 (ne_of_none e1 n2).symm h2)
end
/-! ppat -/
/-- a paper at p -/
def PpAt (K : PySem.W.Frag) (CP : Addr) (H : Hp) (p : Addr) (first : List Int) (ss : List Stp) : Prop := ∃ (dx fr st : Addr) (vs : List V), H p = some (.ins CP dx (papF (.ref fr) st)) ∧ H st = some (.lst vs) ∧ DpAll K H vs (ss.map stpD) ∧ SqT K H fr (first.map V.int)
theorem PpAt.kp {K : PySem.W.Frag} {CP : Addr} {H H' : Hp} {p : Addr} {first : List Int} {ss : List Stp} (h : PpAt K CP H p first ss) (k : Kp [] H H') : PpAt K CP H' p first ss := by
  obtain ⟨dx, fr, st, vs, h1, h2, h3, h4⟩ := h
  exact ⟨dx, fr, st, vs, k.at0 h1, k.at0 h2, dpAll_kp k h3, k.tup h4⟩
/-! _law_digest -/
section
local macro_rules | `(tactic| wtm_at "d") => `(tactic| first | ((with_reducible show Z.XE _ (PySem.Expr.Call (PySem.Expr.Name "int" _) (_ :: _) [] _) _ _ _); refine Z.xe_callTy (id := "int") (by assumption) (by wtm_at "m") T.b_int (by decide +kernel) ?_) | ((with_reducible show Z.XE _ (PySem.Expr.Name "int" _) _ _ _); refine Z.xe_ty (id := "int") (by assumption) (by wtm_at "m") T.b_int (by decide +kernel) ?_) | ((with_reducible show Z.XE _ (PySem.Expr.Call (PySem.Expr.Name "len" _) (_ :: _) [] _) _ _ _); refine Z.xe_callB (id := "len") (by assumption) (by wtm_at "m") T.b_len (by decide +kernel) ?_) | ((with_reducible show Z.XE _ (PySem.Expr.Call (PySem.Expr.Name "list" _) (_ :: _) [] _) _ _ _); refine Z.xe_callTy (id := "list") (by assumption) (by wtm_at "m") T.b_list (by decide +kernel) ?_) | ((with_reducible show Z.XE _ (PySem.Expr.Name "list" _) _ _ _); refine Z.xe_ty (id := "list") (by assumption) (by wtm_at "m") T.b_list (by decide +kernel) ?_) | fail)
def sp_ldigest (K : PySem.W.Frag) : Sp := fun vs H Q _ => ∃ (p r : Addr) (b f : Int) (ns : List Int), vs = [.ref p, .ref r] ∧ SqT K H p [.int b, .int f] ∧ SqT K H r (ns.map V.int) ∧ 0 < b ∧ ns.length ≤ 10000 ∧ ∀ H', Kp [] H H' → Q (.int (dig b f ns)) H'
theorem ok__law_digest (T : Txt P w K mg base) : DefOk P w K mg base "_law_digest" ["m", "row"] 1 (sp_ldigest K) := by
  refine DefOk.by T.d__law_digest sc__law_digest oc__law_digest (fun vs H Q E h => ?_) (fun X e1 e2 e3 e4 e5 C H vs Q E h => ?_)
  · obtain ⟨p, r, b, f, ns, rfl, _⟩ := h; rfl
  · obtain ⟨p, r, b, f, ns, rfl, hm, hr, hb, hl, q⟩ := h
    wtm_at "go"
    wtm_at "w"
    refine xs_forL (by assumption) ?_
    wtm_at "w"
    intro l1 H1 k1 n1 e1
    wtm_at "w"
    refine vc_listT (by wtm_at "kp") (fun l2 H2 k2 n2 e2 => ?_)
    refine vo_catL (by wtm_at "kp") e2 (by rw [List.length_map]; exact sz_ (by simp; omega)) (fun l3 H3 k3 n3 e3 => ?_)
    have e3 : H3 l3 = some (.lst (((ns.length : Int) :: ns).map V.int)) := by rw [e3, List.length_map]; rfl
    have kk : Kp [] H H3 := (k1.tr0 k2).tr0 k3
    refine ⟨l3, _, rfl, Z.SqL.of' e3, fun i σ H' => ∃ vn, σ = [some (.ref p), some (.ref r), some (.int (mixF f (((ns.length : Int) :: ns).take i) 1)), vn] ∧ H' = H3, ⟨none, rfl, rfl⟩, ?_, ?_, ?_⟩
    · rintro i σ' H' hi ⟨vn, rfl, rfl⟩
      exact Z.SqL.of' e3
    · rintro i y σ' H' hy ⟨vn, rfl, rfl⟩
      obtain ⟨n, hn, rfl⟩ := map_at hy
      have s1 := mixF_rng (f := f) (((ns.length : Int) :: ns).take i) 1 (by decide) (by decide)
      wtm_at "w"
      refine vo_mul (cmulL (mulP s1.1 s1.2)) ?_
      wtm_at "w"
      exact ⟨_, by rw [mixF_take hn]; rfl, rfl⟩
    · rintro σ' H' ⟨vn, rfl, rfl⟩
      have e : (((ns.length : Int) :: ns).take ((((ns.length : Int) :: ns).map V.int).length)) = ((ns.length : Int) :: ns) := by rw [List.length_map]; exact List.take_length
      rw [e]
      wtm_at "w"
      refine vo_mul (cmulR ⟨by decide, by decide⟩) ?_
      wtm_at "w"
      refine vo_mod hb ?_
      exact q _ kk
end
/-! _law_number -/
section
local macro_rules | `(tactic| wtm_at "d") => `(tactic| first | ((with_reducible show Z.XE _ (PySem.Expr.Call (PySem.Expr.Name "_law_draw" _) (_ :: _) [] _) _ _ _); refine Z.xe_call (by assumption) (Law.ok__law_draw T) (by wtm_at "m") (by omega) ?_) | fail)
def sp_number : Sp := fun vs H Q _ => ∃ (b r : Addr), vs = [.ref b] ∧ Box H b r ∧ ∀ (v : Int) H', 0 ≤ v → v < 2 ^ 68 → Kp [b] H H' → Box H' b r → Q (.int v) H'
theorem num_step {n d : Int} {i : Nat} (h : 0 ≤ n) (hn : n + 1 ≤ 840 ^ i) (h0 : 0 ≤ d) (h1 : d < 840) : 0 ≤ n * 840 + d ∧ n * 840 + d + 1 ≤ 840 ^ (i + 1) := by
  have e : (840 : Int) ^ (i + 1) = 840 ^ i * 840 := by rw [Int.pow_succ]
  rw [e]
  omega
theorem num_end {n : Int} {i : Nat} (hi : i ≤ 7) (hn : n + 1 ≤ 840 ^ i) : n < 2 ^ 68 := by
  have h7 : (840 : Int) ^ i ≤ 840 ^ 7 := by
    have : i = 0 ∨ i = 1 ∨ i = 2 ∨ i = 3 ∨ i = 4 ∨ i = 5 ∨ i = 6 ∨ i = 7 := by omega
    rcases this with rfl | rfl | rfl | rfl | rfl | rfl | rfl | rfl <;> decide
  have : (840 : Int) ^ 7 < 2 ^ 68 := by decide
  omega
theorem ok__law_number (T : Txt P w K mg base) : DefOk P w K mg base "_law_number" ["box"] 2 sp_number := by
  refine DefOk.by T.d__law_number sc__law_number oc__law_number (fun vs H Q E h => ?_) (fun X e1 e2 e3 e4 e5 C H vs Q E h => ?_)
  · obtain ⟨b, r, rfl, _⟩ := h; rfl
  · obtain ⟨b, r, rfl, hb, q⟩ := h
    wtm_at "go"
    wtm_at "w"
    refine ⟨b, r, 6, rfl, hb, by decide, fun v H1 v0 v1 k1 b1 => ?_⟩
    wtm_at "w"
    refine ite_d (fun h => ?_) (fun h => ?_)
    · wtm_at "w"
      exact ⟨b, r, 7, rfl, b1, by decide, fun u H2 u0 u1 k2 b2 => q u H2 u0 (Int.lt_trans u1 (by decide)) (k1.tr1 k2 (.inl (by simp))) b2⟩
    · wtm_at "w"
      refine xs_forR1 (by assumption) (by wtm_at "m") T.b_range ?_
      wtm_at "w"
      refine ⟨b, r, 7, rfl, b1, by decide, fun u H2 u0 u1 k2 b2 => ?_⟩
      wtm_at "w"
      refine ⟨1 + u, rfl, by omega, by omega, fun i σ H' => ∃ n : Int, ∃ vt, σ = [some (.ref b), some (.int v), some (.int n), vt] ∧ 0 ≤ n ∧ n + 1 ≤ 840 ^ i ∧ Kp [b] H H' ∧ Box H' b r, ⟨0, none, rfl, by decide, by decide, k1.tr1 k2 (.inl (by simp)), b2⟩, ?_, ?_⟩
      · rintro i σ' H3 hi ⟨n, vt, rfl, n0, n1, k3, b3⟩
        wtm_at "w"
        refine vo_mul (cmulR ⟨by decide, by decide⟩) ?_
        wtm_at "w"
        refine ⟨b, r, 840, rfl, b3, by decide, fun d H4 d0 d1 k4 b4 => ?_⟩
        wtm_at "w"
        have s := num_step n0 n1 d0 d1
        exact ⟨_, _, rfl, s.1, s.2, k3.tr1 k4 (.inl (by simp)), b4⟩
      · rintro σ' H3 ⟨n, vt, rfl, n0, n1, k3, b3⟩
        wtm_at "w"
        exact q n H3 n0 (num_end (by omega) n1) k3 b3
end
/-! _law_mixing -/
section
local macro_rules | `(tactic| wtm_at "d") => `(tactic| first | ((with_reducible show Z.XE _ (PySem.Expr.Call (PySem.Expr.Name "int" _) (_ :: _) [] _) _ _ _); refine Z.xe_callTy (id := "int") (by assumption) (by wtm_at "m") T.b_int (by decide +kernel) ?_) | ((with_reducible show Z.XE _ (PySem.Expr.Name "int" _) _ _ _); refine Z.xe_ty (id := "int") (by assumption) (by wtm_at "m") T.b_int (by decide +kernel) ?_) | ((with_reducible show Z.XE _ (PySem.Expr.Call (PySem.Expr.Name "_law_draw" _) (_ :: _) [] _) _ _ _); refine Z.xe_call (by assumption) (Law.ok__law_draw T) (by wtm_at "m") (by omega) ?_) | ((with_reducible show Z.XE _ (PySem.Expr.Call (PySem.Expr.Name "_law_number" _) (_ :: _) [] _) _ _ _); refine Z.xe_call (by assumption) (Law.ok__law_number T) (by wtm_at "m") (by omega) ?_) | fail)
def sp_mixing (K : PySem.W.Frag) : Sp := fun vs H Q _ => ∃ (b r : Addr), vs = [.ref b] ∧ Box H b r ∧ ∀ (p : Addr) (n f : Int) H', 2 ≤ n → n ≤ 2 ^ 64 → 2 ≤ f → f < PR → Kp [b] H H' → Box H' b r → SqT K H' p [.int n, .int f] → Q (.ref p) H'
theorem pick {ns : List Int} {v : Int} (h0 : 0 ≤ v) (h1 : v < ns.length) : ∃ n, n ∈ ns ∧ atI (ns.map V.int) v = some (.int n) := by
  have hk : v.toNat < ns.length := by omega
  exact ⟨ns[v.toNat], List.getElem_mem hk, at_map h0 (List.getElem?_eq_getElem hk)⟩
theorem ok__law_mixing (T : Txt P w K mg base) : DefOk P w K mg base "_law_mixing" ["box"] 3 (sp_mixing K) := by
  refine DefOk.by T.d__law_mixing sc__law_mixing oc__law_mixing (fun vs H Q E h => ?_) (fun X e1 e2 e3 e4 e5 C H vs Q E h => ?_)
  · obtain ⟨b, r, rfl, _⟩ := h; rfl
  · obtain ⟨b, r, rfl, hb, q⟩ := h
    wtm_at "go"
    wtm_at "w"
    refine vo_mul (cmulR ⟨by decide, by decide⟩) ?_
    wtm_at "w"
    refine vo_pow ⟨by decide, by decide, by decide⟩ ?_
    wtm_at "w"
    intro p H1 k1 np hp
    wtm_at "w"
    refine ⟨b, r, 8, rfl, hb.kp k1, by decide, fun v H2 v0 v1 k2 b2 => ?_⟩
    have nb : p ∉ [b] := by simpa using (hb.nl np).1.symm
    obtain ⟨n, hn, hat⟩ := pick (ns := [2, 3, 5, 16, 50, 840 * 840, 2305843009213693951, 2 ^ 64]) v0 v1
    refine vx_lst (SqL.of' (k2.at nb hp)) hat ?_
    have n2 : 2 ≤ n ∧ n ≤ 2 ^ 64 := by
      have hh : ∀ m ∈ ([2, 3, 5, 16, 50, 840 * 840, 2305843009213693951, 2 ^ 64] : List Int), 2 ≤ m ∧ m ≤ 2 ^ 64 := by decide
      exact hh n hn
    have k3 : Kp [b] H H2 := (k1.wk fun _ m => nomatch m).tr1 k2 (.inl (by simp))
    wtm_at "w"
    refine ⟨b, r, 840, rfl, b2, by decide, fun d H3 d0 d1 k4 b3 => ?_⟩
    wtm_at "w"
    refine ⟨b, r, rfl, b3, fun u H4 u0 u1 k5 b4 => ?_⟩
    wtm_at "w"
    refine vo_mul (cmulL ⟨by decide, by decide⟩) ?_
    wtm_at "w"
    intro t H5 k6 ht _
    have g0 := Int.emod_nonneg (d + 840 * u) (show (2305843009213693949 : Int) ≠ 0 by decide)
    have g1 := Int.emod_lt_of_pos (d + 840 * u) (show (0 : Int) < 2305843009213693949 by decide)
    refine q t n _ H5 n2.1 n2.2 (by omega) (by unfold PR; omega) ?_ (b4.kp k6) ht
    exact ((k3.tr1 k4 (.inl (by simp))).tr1 k5 (.inl (by simp))).tr0 k6
end
/-! _law_backs -/
section
local macro_rules | `(tactic| wtm_at "d") => `(tactic| first | ((with_reducible show Z.XE _ (PySem.Expr.Call (PySem.Expr.Name "int" _) (_ :: _) [] _) _ _ _); refine Z.xe_callTy (id := "int") (by assumption) (by wtm_at "m") T.b_int (by decide +kernel) ?_) | ((with_reducible show Z.XE _ (PySem.Expr.Name "int" _) _ _ _); refine Z.xe_ty (id := "int") (by assumption) (by wtm_at "m") T.b_int (by decide +kernel) ?_) | fail)
def sp_lb : Sp := fun vs H Q _ => ∃ n : Int, vs = [.int n] ∧ 0 ≤ n ∧ n < 2 ^ 69 ∧ ∀ p H', Kp [] H H' → H p = none → H' p = some (.lst ((bkTo n (cntB n)).map V.int)) → Q (.ref p) H'
theorem ok__law_backs (T : Txt P w K mg base) : DefOk P w K mg base "_law_backs" ["number"] 1 sp_lb := by
  refine DefOk.by T.d__law_backs sc__law_backs oc__law_backs (fun vs H Q E h => ?_) (fun X e1 e2 e3 e4 e5 C H vs Q E h => ?_)
  · obtain ⟨v, rfl, _⟩ := h; rfl
  · obtain ⟨n, rfl, h0, h1, q⟩ := h
    have hc := cnt_le (m := 69) h0 h1
    wtm_at "go"
    wtm_at "w"
    intro L H2 k2 nL hL
    wtm_at "w"
    refine xs_forR1 (by assumption) (by wtm_at "m") T.b_range ?_
    wtm_at "w"
    refine ⟨70, rfl, by decide, by decide, fun i σ H' => ∃ vt, σ = [some (.int n), some (.ref L), some (.int (2 ^ i)), vt] ∧ Kp [] H H' ∧ H' L = some (.lst ((bkTo n i).map V.int)) ∧ i ≤ cntB n, ⟨_, rfl, k2, hL, by omega⟩, ?_, ?_⟩
    · rintro i σ' H3 hi ⟨vt, rfl, k3, e3, ci⟩
      have pp : (0 : Int) < 2 ^ i := by rw [← cast_pow]; exact_mod_cast Nat.pow_pos (by decide)
      have cl := cnt_lt h0 i
      wtm_at "w"
      refine ite_d (fun h => ?_) (fun h => ?_)
      · wtm_at "w"
        have e : i = cntB n := by
          by_cases z : i < cntB n
          · have := (cl.mp z).1; omega
          · omega
        exact q L H3 k3 nL (by rw [e3, e])
      · wtm_at "w"
        refine vo_mod pp ?_
        wtm_at "w"
        refine ite_nd (fun h' => ?_) (fun h' => ?_)
        · wtm_at "w"
          have e : i = cntB n := by
            by_cases z : i < cntB n
            · exact absurd (cl.mp z).2 h'
            · omega
          exact q L H3 k3 nL (by rw [e3, e])
        · have z : i < cntB n := cl.mpr ⟨by omega, h'⟩
          wtm_at "w"
          refine ⟨e3, szl (by rw [List.length_map, bkTo_len]; omega), fun H4 k4 e4 => ?_⟩
          wtm_at "w"
          refine vo_mul (cmulR ⟨by decide, by decide⟩) ?_
          wtm_at "w"
          refine ⟨_, by rw [Int.pow_succ], k3.tr1 k4 (.inr nL), ?_, z⟩
          rw [e4, bkTo_succ, List.map_append]; rfl
    · rintro σ' H3 ⟨vt, rfl, k3, e3, ci⟩
      have : (70 : Int).toNat = 70 := rfl
      omega
end
/-! _law_half -/
section
local macro_rules | `(tactic| wtm_at "d") => `(tactic| fail)
def sp_half : Sp := fun vs H Q _ => ∃ n : Nat, vs = [.int n] ∧ 2 ≤ n ∧ n ≤ 2 ^ 68 ∧ Q (.int (hf n)) H
theorem ok__law_half (T : Txt P w K mg base) : DefOk P w K mg base "_law_half" ["count"] 1 sp_half := by
  refine DefOk.by T.d__law_half sc__law_half oc__law_half (fun vs H Q E h => ?_) (fun X e1 e2 e3 e4 e5 C H vs Q E h => ?_)
  · obtain ⟨v, rfl, _⟩ := h; rfl
  · obtain ⟨n, rfl, h2, h60, q⟩ := h
    have l60 : (n - 1).log2 < 68 := by
      refine (Nat.pow_lt_pow_iff_right (a := 2) (by decide)).mp ?_
      have := Nat.log2_self_le (n := n - 1) (by omega)
      omega
    have lo := Nat.log2_self_le (n := n - 1) (by omega)
    have hi := Nat.lt_log2_self (n := n - 1)
    wtm_at "go"
    wtm_at "w"
    refine xs_forR1 (by assumption) (by wtm_at "m") T.b_range ?_
    wtm_at "w"
    refine ⟨70, rfl, by decide, by decide, fun t σ H' => ∃ vt, σ = [some (.int n), some (.int ((2 ^ t : Nat) : Int)), vt] ∧ H' = H ∧ t ≤ (n - 1).log2, ⟨_, rfl, rfl, by omega⟩, ?_, ?_⟩
    · rintro t σ' H' ht ⟨vt, rfl, rfl, tl⟩
      have ps : 2 ^ (t + 1) = 2 * 2 ^ t := by rw [Nat.pow_succ, Nat.mul_comm]
      wtm_at "w"
      refine vo_mul (cmulL ⟨by decide, by decide⟩) ?_
      wtm_at "w"
      refine ite_d (fun h => ?_) (fun h => ?_)
      · wtm_at "w"
        have e : t = (n - 1).log2 := by
          have : (n - 1).log2 < t + 1 := (Nat.log2_lt (by omega)).mpr (by omega)
          omega
        have e2 : ((2 ^ t : Nat) : Int) = (hf n : Int) := by rw [e]; rfl
        rw [e2]; exact q
      · wtm_at "w"
        refine vo_mul (cmulL ⟨by decide, by decide⟩) ?_
        wtm_at "w"
        have : t + 1 ≤ (n - 1).log2 := (Nat.le_log2 (by omega)).mpr (by omega)
        exact ⟨_, by rw [ps]; rfl, rfl, this⟩
    · rintro σ' H' ⟨vt, rfl, rfl, tl⟩
      have : (70 : Int).toNat = 70 := rfl
      omega
end
/-! _law_root -/
section
local macro_rules | `(tactic| wtm_at "d") => `(tactic| first | ((with_reducible show Z.XE _ (PySem.Expr.Call (PySem.Expr.Name "len" _) (_ :: _) [] _) _ _ _); refine Z.xe_callB (id := "len") (by assumption) (by wtm_at "m") T.b_len (by decide +kernel) ?_) | ((with_reducible show Z.XE _ (PySem.Expr.Call (PySem.Expr.Name "_law_digest" _) (_ :: _) [] _) _ _ _); refine Z.xe_call (by assumption) (Law.ok__law_digest T) (by wtm_at "m") (by omega) ?_) | ((with_reducible show Z.XE _ (PySem.Expr.Call (PySem.Expr.Name "_law_half" _) (_ :: _) [] _) _ _ _); refine Z.xe_call (by assumption) (Law.ok__law_half T) (by wtm_at "m") (by omega) ?_) | ((with_reducible show Z.XE _ (PySem.Expr.Call (PySem.Expr.Name "_law_root" _) (_ :: _) [] _) _ _ _); refine Z.xe_call (by assumption) (Law.ok__law_root T) (by wtm_at "m") (by omega) ?_) | fail)
def sp_lroot (d : Nat) (K : PySem.W.Frag) : Sp := fun vs H Q _ => ∃ (m e : Addr) (b f : Int) (es : List Int), vs = [.ref m, .ref e] ∧ SqT K H m [.int b, .int f] ∧ SqL K H e (es.map V.int) ∧ 1 ≤ es.length ∧ es.length ≤ 2 ^ d ∧ 0 < b ∧ ∀ H', Kp [] H H' → Q (.int (rt b f es)) H'
theorem lroot_by (T : Txt P w K mg base) (d : Nat) (h9 : d ≤ 9) (ih : 0 < d → DefOk P w K mg base "_law_root" ["m", "entries"] (d + 1) (sp_lroot (d - 1) K)) : DefOk P w K mg base "_law_root" ["m", "entries"] (d + 1 + 1) (sp_lroot d K) := by
  refine DefOk.by T.d__law_root sc__law_root oc__law_root (fun vs H Q E h => ?_) (fun X e1 e2 e3 e4 e5 C H vs Q E h => ?_)
  · obtain ⟨p, e, b, f, es, rfl, _⟩ := h; rfl
  · obtain ⟨p, e, b, f, es, rfl, hm, he, l1, ld, hb, q⟩ := h
    have h512 : es.length ≤ 512 := Nat.le_trans ld (Nat.pow_le_pow_right (by decide) h9)
    wtm_at "go"
    wtm_at "w"
    rw [List.length_map]
    refine ite_d (fun h1 => ?_) (fun h1 => ?_)
    · have h2 : ¬ 2 ≤ es.length := by omega
      wtm_at "w"
      have h0 : es[0]? = some (es.headD 0) := by
        cases es with
        | nil => simp at l1
        | cons x xs => rfl
      refine vx_lst he (at_map (by decide) h0) ?_
      wtm_at "w"
      rw [← rt_one (b := b) (f := f) h2]
      exact q H (Kp.refl _ _)
    · have h2 : 2 ≤ es.length := by omega
      have d0 : 0 < d := by
        cases d with
        | zero => simp at ld; omega
        | succ d => omega
      obtain ⟨d', rfl⟩ : ∃ d', d = d' + 1 := ⟨d - 1, by omega⟩
      have lt := hf_lt h2
      have lp := hf_pos es.length
      wtm_at "w"
      refine ⟨es.length, by rw [List.length_map], h2, by omega, ?_⟩
      wtm_at "w"
      refine xe_call (by assumption) (ih d0) (by wtm_at "m") (by omega) ?_
      wtm_at "w"
      refine vsl_lst he (fun c1 H1 k1 n1 g1 => ?_)
      rw [cut_take _ _ (by rw [List.length_map]; omega), ← List.map_take] at g1
      wtm_at "w"
      refine ⟨p, c1, b, f, _, rfl, k1.tup hm, Z.SqL.of' g1, by rw [len_take h2]; omega, by rw [len_take h2]; exact hf_le h2 ld, hb, fun H2 k2 => ?_⟩
      wtm_at "w"
      refine xe_call (by assumption) (ih d0) (by wtm_at "m") (by omega) ?_
      wtm_at "w"
      refine vsl_lst (k2.lst0 (k1.lst0 he)) (fun c2 H3 k3 n3 g3 => ?_)
      rw [cut_drop _ _ (by rw [List.length_map]; omega), ← List.map_drop] at g3
      wtm_at "w"
      refine ⟨p, c2, b, f, _, rfl, k3.tup (k2.tup (k1.tup hm)), Z.SqL.of' g3, by rw [List.length_drop]; omega, by rw [List.length_drop]; exact rest_le h2 ld, hb, fun H4 k4 => ?_⟩
      wtm_at "w"
      intro nd H5 k5 hnd _
      wtm_at "w"
      have k05 := (((k1.tr0 k2).tr0 k3).tr0 k4).tr0 k5
      refine ⟨p, nd, b, f, [3, rt b f (es.take (hf es.length)), rt b f (es.drop (hf es.length))], rfl, k05.tup hm, hnd, hb, by simp, fun H6 k6 => ?_⟩
      rw [← rt_two h2]
      exact q H6 (k05.tr0 k6)
theorem lroot_ok (T : Txt P w K mg base) : ∀ d, d ≤ 9 → DefOk P w K mg base "_law_root" ["m", "entries"] (d + 1 + 1) (sp_lroot d K)
  | 0, h => lroot_by T 0 h fun h => absurd h (by omega)
  | d + 1, h => lroot_by T (d + 1) h fun _ => lroot_ok T d (by omega)
theorem ok__law_root (T : Txt P w K mg base) : DefOk P w K mg base "_law_root" ["m", "entries"] 11 (sp_lroot 9 K) := lroot_ok T 9 (by omega)
end
/-! _law_way -/
section
local macro_rules | `(tactic| wtm_at "d") => `(tactic| first | ((with_reducible show Z.XE _ (PySem.Expr.Call (PySem.Expr.Name "len" _) (_ :: _) [] _) _ _ _); refine Z.xe_callB (id := "len") (by assumption) (by wtm_at "m") T.b_len (by decide +kernel) ?_) | ((with_reducible show Z.XE _ (PySem.Expr.Call (PySem.Expr.Name "tuple" _) (_ :: _) [] _) _ _ _); refine Z.xe_callTy (id := "tuple") (by assumption) (by wtm_at "m") T.b_tuple (by decide +kernel) ?_) | ((with_reducible show Z.XE _ (PySem.Expr.Name "tuple" _) _ _ _); refine Z.xe_ty (id := "tuple") (by assumption) (by wtm_at "m") T.b_tuple (by decide +kernel) ?_) | ((with_reducible show Z.XE _ (PySem.Expr.Call (PySem.Expr.Name "_law_half" _) (_ :: _) [] _) _ _ _); refine Z.xe_call (by assumption) (Law.ok__law_half T) (by wtm_at "m") (by omega) ?_) | ((with_reducible show Z.XE _ (PySem.Expr.Call (PySem.Expr.Name "_law_root" _) (_ :: _) [] _) _ _ _); refine Z.xe_call (by assumption) (Law.ok__law_root T) (by wtm_at "m") (by omega) ?_) | fail)
def sp_lway (K : PySem.W.Frag) : Sp := fun vs H Q _ => ∃ (m e : Addr) (b f : Int) (es : List Int) (i : Nat), vs = [.ref m, .ref e, .int i] ∧ SqT K H m [.int b, .int f] ∧ SqL K H e (es.map V.int) ∧ i < es.length ∧ es.length ≤ 512 ∧ 0 < b ∧ ∀ t H', Kp [] H H' → SqT K H' t ((wy b f es i).map V.int) → Q (.ref t) H'
theorem ok__law_way (T : Txt P w K mg base) : DefOk P w K mg base "_law_way" ["m", "entries", "index"] 12 (sp_lway K) := by
  refine DefOk.by T.d__law_way sc__law_way oc__law_way (fun vs H Q E h => ?_) (fun X e1 e2 e3 e4 e5 C H vs Q E h => ?_)
  · obtain ⟨p, e, b, f, es, i, rfl, _⟩ := h; rfl
  · obtain ⟨p, e, b, f, es, i, rfl, hm, he, il, ld, hb, q⟩ := h
    have tl := tn_len 9 es.length i ld
    have wl := wy_len b f 600 es i (by omega)
    wtm_at "go"
    wtm_at "w"
    intro L H1 k1 nL hL
    wtm_at "w"
    refine xs_forR1 (by assumption) (by wtm_at "m") T.b_range ?_
    wtm_at "w"
    refine ⟨70, rfl, by decide, by decide, fun t σ H' => ∃ (pr M : Addr) (ps ws : List Int) (j : Nat) (v1 v2 : Option V), σ = [some (.ref p), some (.ref pr), some (.int j), some (.ref M), v1, v2] ∧ Kp [] H H' ∧ H' M = some (.lst (ws.map V.int)) ∧ SqL X.K H' pr (ps.map V.int) ∧
      j < ps.length ∧ t ≤ 9 ∧ ps.length ≤ 2 ^ (9 - t) ∧ wy b f es i = wy b f ps j ++ ws, ⟨e, L, es, [], i, _, _, rfl, k1, hL, k1.lst0 he, il, by omega, ld, by simp⟩, ?_, ?_⟩
    · rintro t σ' H2 ht ⟨pr, M, ps, ws, j, v1, v2, rfl, k2, hM, hp, jl, t9, pl, ew⟩
      have p512 : ps.length ≤ 512 := Nat.le_trans pl (Nat.pow_le_pow_right (n := 2) (by decide) (show 9 - t ≤ 9 by omega))
      have lw : ws.length ≤ 9 := by
        have := congrArg List.length ew
        rw [List.length_append] at this; omega
      wtm_at "w"
      rw [List.length_map]
      refine ite_d (fun h => ?_) (fun h => ?_)
      · wtm_at "w"
        refine vc_tupL (Z.SqL.of' hM) (fun r6 H6 k6 h6 => ?_)
        refine q r6 H6 (k2.tr0 k6) ?_
        rw [ew, wy_one (by omega)]; exact h6
      · have s2 : 2 ≤ ps.length := by omega
        have t59 : t < 9 := by
          by_cases z : t = 9
          · rw [z] at pl; simp at pl; omega
          · omega
        have es' : 9 - t = (9 - (t + 1)) + 1 := by omega
        rw [es'] at pl
        have lt := hf_lt s2
        have lp := hf_pos ps.length
        wtm_at "w"
        refine ⟨ps.length, by rw [List.length_map], s2, by omega, ?_⟩
        wtm_at "w"
        refine ite_d (fun hj => ?_) (fun hj => ?_)
        · have hj' : j < hf ps.length := by omega
          wtm_at "w"
          refine vsl_lst hp (fun c2 H6 k6 n6 g6 => ?_)
          rw [cut_drop _ _ (by rw [List.length_map]; omega), ← List.map_drop] at g6
          wtm_at "w"
          refine ⟨p, c2, b, f, _, rfl, k6.tup (k2.tup hm), Z.SqL.of' g6, by rw [List.length_drop]; omega, by rw [List.length_drop]; omega, hb, fun H7 k7 => ?_⟩
          wtm_at "w"
          intro z1 H8 k8 n8 h8
          wtm_at "w"
          refine vo_catL h8 (k8.at0 (k7.at0 (k6.at0 hM))) (by simp; exact sz_ (by omega)) (fun z2 H9 k9 n9 h9 => ?_)
          wtm_at "w"
          have k69 := ((k6.tr0 k7).tr0 k8).tr0 k9
          refine vsl_lst (k69.lst0 hp) (fun c1 H10 k10 n10 g10 => ?_)
          rw [cut_take _ _ (by rw [List.length_map]; omega), ← List.map_take] at g10
          wtm_at "w"
          refine ⟨c1, z2, _, rt b f (ps.drop (hf ps.length)) :: ws, j, _, _, rfl, (k2.tr0 k69).tr0 k10, k10.at0 h9, Z.SqL.of' g10, by rw [len_take s2]; exact hj', by omega, by rw [len_take s2]; exact hf_le s2 pl, ?_⟩
          rw [ew, wy_lo s2 hj']; simp
        · have hj' : ¬ j < hf ps.length := by omega
          wtm_at "w"
          refine vsl_lst hp (fun c2 H6 k6 n6 g6 => ?_)
          rw [cut_take _ _ (by rw [List.length_map]; omega), ← List.map_take] at g6
          wtm_at "w"
          refine ⟨p, c2, b, f, _, rfl, k6.tup (k2.tup hm), Z.SqL.of' g6, by rw [len_take s2]; omega, by rw [len_take s2]; omega, hb, fun H7 k7 => ?_⟩
          wtm_at "w"
          intro z1 H8 k8 n8 h8
          wtm_at "w"
          refine vo_catL h8 (k8.at0 (k7.at0 (k6.at0 hM))) (by simp; exact sz_ (by omega)) (fun z2 H9 k9 n9 h9 => ?_)
          wtm_at "w"
          have k69 := ((k6.tr0 k7).tr0 k8).tr0 k9
          refine vsl_lst (k69.lst0 hp) (fun c1 H10 k10 n10 g10 => ?_)
          rw [cut_drop _ _ (by rw [List.length_map]; omega), ← List.map_drop] at g10
          have e1 : ((j : Int) - (hf ps.length : Int)) = ((j - hf ps.length : Nat) : Int) := by omega
          wtm_at "w"
          rw [e1]
          refine ⟨c1, z2, _, rt b f (ps.take (hf ps.length)) :: ws, j - hf ps.length, _, _, rfl, (k2.tr0 k69).tr0 k10, k10.at0 h9, Z.SqL.of' g10, by rw [List.length_drop]; omega, by omega, by rw [List.length_drop]; exact rest_le s2 pl, ?_⟩
          rw [ew, wy_hi s2 hj']; simp
    · rintro σ' H2 ⟨pr, M, ps, ws, j, v1, v2, rfl, k2, hM, hp, jl, t9, pl, ew⟩
      have : (70 : Int).toNat = 70 := rfl
      omega
end
/-! dictT -/
/-! dicts whose keys are rows; plain tuples -/
section
variable {X : Cx} {σ : St} {H : Hp} {Q : VK} {N Vs Ls G : List Str} {k : Nat} {sc : Scope} {e o i : Expr} {pos p1 : Pos} {D : B3} {nx : St → Hp → Prop} {p q : Addr} {xs ys : List V}
theorem xe_dnewT (h : ∀ p H', Kp [] H H' → H p = none → H' p = some (.dT []) → Q (.ref p) H') : XE X (.Dict [] [] pos) σ H Q := ⟨_, pe_dnewT, new_ h⟩
theorem xs_dputT (C : Ctx X sc N Vs Ls G k) (h : XE X e σ H fun v H1 => XE X o σ H1 fun x H2 => XE X i σ H2 fun y H3 => ∃ (p a : Addr) (kvs : List (List Key × V)) (kk : List Key), x = .ref p ∧ y = .ref a ∧ H3 p = some (.dT kvs) ∧ H3 a = some (.tup (kk.map kV)) ∧ kvs.length < sizeLine ∧ ∀ H', Kp [p] H3 H' → H' p = some (.dT (putK kvs kk v)) → nx σ H')
    (hs : swapsWith e (some (.Subscript o i p1)) pos.line X.env = pure false := by rfl) : XS X (.Assign [.Subscript o i p1] e pos) nx D σ H :=
  ⟨_, ps_dput C.hu XE.pe XE.pe XE.pe hs, XE.mono h fun v H1 h => XE.mono h fun x H2 h => XE.mono h fun y H3 ⟨p, a, kvs, kk, e1, e2, e3, e5, e4, q⟩ => ⟨p, _, e1, .inr ⟨kvs, kk, a, e3, e2, e5, e4, rfl⟩, q _ (Kp.set e3 rfl) upd_same⟩⟩
theorem vo_catP (hx : H p = some (.tup xs)) (hy : H q = some (.tup ys)) (hz : xs.length + ys.length ≤ sizeLine) (h : ∀ r H', Kp [] H H' → H' r = some (.tup (xs ++ ys)) → Q (.ref r) H') : VO X (binaryOp .Add) (.ref p) (.ref q) H Q := by
  refine ⟨_, op_catA, p, q, xs, ys, rfl, rfl, .inl (.inl hx), .inl (.inl hy), hz, fun e => ?_, fun _ e => ?_, fun _ _ r hr => h r _ (Kp.new hr) upd_same⟩
  · subst e; exact h q H (Kp.refl _ _) hy
  · subst e; exact h p H (Kp.refl _ _) (by simpa using hx)
theorem vc_tupLP (hx : SqL X.K H p xs) (h : ∀ p H', Kp [] H H' → H' p = some (.tup xs) → Q (.ref p) H') : VC X (.type "tuple") [.ref p] H Q := ⟨_, call_tuple_of, p, xs, rfl, .inl ⟨hx, fun p hp => h p _ (Kp.new hp) upd_same⟩⟩
end
/-! keyR -/
/-! rows as keys -/
def keyOf (rs : List Int) : List Key := rs.map .inl
theorem keyOf_kV (rs : List Int) : (keyOf rs).map kV = rs.map V.int := by unfold keyOf; rw [List.map_map]; rfl
theorem keyOf_inj {a b : List Int} (h : keyOf a = keyOf b) : a = b := by
  induction a generalizing b with
  | nil => cases b with
    | nil => rfl
    | cons y b => cases h
  | cons x a ih => cases b with
    | nil => cases h
    | cons y b =>
      have h' := List.cons.inj (show (Sum.inl x : Key) :: keyOf a = Sum.inl y :: keyOf b from h)
      rw [Sum.inl.inj h'.1, ih h'.2]
/-! wt -/
/-! a world: its things, one behind the other, and their entries -/
def rowB (h v : Int) : List Int := [1, h, v]
def rowD (cs bs : List Int) : List Int := 2 :: (cs.length : Int) :: (cs ++ bs)
def rowR (d : Int) : List Int := [5, d]
def rowH (n f s k h : Int) (es bs : List Int) : List Int := [4, s, k, h, (es.length : Int), rt n f es] ++ bs
/-- a number that fits in what is drawn -/
def InB (x : Int) : Prop := 0 ≤ x ∧ x < 2 ^ 68
inductive Wt (n f : Int) : List Int → List Int → Prop where
  | beacon (h v : Int) (h0 : InB h) (v0 : InB v) : Wt n f (rowB h v) []
  | doc (cs bs : List Int) (c3 : cs.length ≤ 3) (b2 : bs.length ≤ 2) (c0 : ∀ x ∈ cs, InB x) (b0 : ∀ x ∈ bs, InB x) : Wt n f (rowD cs bs) []
  | renew (d : Int) (d0 : InB d) : Wt n f (rowR d) []
  | head (s k h : Int) (es bs : List Int) (s0 : InB s) (k0 : 0 ≤ k) (k1 : k ≤ 64) (h0 : InB h) (e1 : 1 ≤ es.length) (e5 : es.length ≤ 5) (eb : bs.length = cntB k) (e0 : ∀ x ∈ es, InB x) (b0 : ∀ x ∈ bs, InB x) (r0 : InB (rt n f es)) : Wt n f (rowH n f s k h es bs) es
theorem Wt.thing {n f : Int} {row es : List Int} (h : Wt n f row es) : isThing row = true := by
  cases h with
  | beacon h v => simp [isThing, rowB]
  | doc cs bs =>
    unfold isThing rowD
    rw [if_neg (by simp), if_neg (by show ¬ (2 : Int) = 1; decide), if_pos (by rfl)]
    apply decide_eq_true
    refine ⟨by simp, ?_⟩
    show 2 + (cs.length : Int) ≤ _
    simp; omega
  | renew d => simp [isThing, rowR]
  | head s k h es bs s0 k0 k1 h0 e1 e5 eb =>
    unfold isThing rowH
    rw [if_neg (by simp), if_neg (by show ¬ (4 : Int) = 1; decide), if_neg (by show ¬ (4 : Int) = 2; decide), if_pos (by rfl)]
    apply decide_eq_true
    refine ⟨by simp, ?_, ?_⟩
    · show 1 ≤ (es.length : Int); omega
    · show _ = 6 + cntB k
      simp [eb]; omega
theorem Wt.len {n f : Int} {row es : List Int} (h : Wt n f row es) : row.length ≤ 100 := by
  cases h with
  | beacon => simp [rowB]
  | doc => simp [rowD]; omega
  | renew => simp [rowR]
  | head s k h es bs s0 k0 k1 h0 e1 e5 eb =>
    have := cnt_le (m := 7) (n := k) k0 (by omega)
    simp [rowH]; omega
theorem Wt.el {n f : Int} {row es : List Int} (h : Wt n f row es) : es.length ≤ 5 := by
  cases h with
  | beacon => simp
  | doc => simp
  | renew => simp
  | head s k h es bs s0 k0 k1 h0 e1 e5 => exact e5
theorem Wt.ok {n f : Int} {row es : List Int} (h : Wt n f row es) : RowOk row := by
  refine ⟨by have := h.len; omega, ?_, fun e => ?_⟩
  · cases h with
    | beacon h v h0 => exact h0.1
    | doc cs bs => show 0 ≤ (cs.length : Int); omega
    | renew d d0 => exact d0.1
    | head s k h es bs s0 => exact s0.1
  · cases h with
    | beacon h v h0 => exact absurd e (by show ¬ (1 : Int) = 4; decide)
    | doc cs bs => exact absurd e (by show ¬ (2 : Int) = 4; decide)
    | renew d d0 => exact absurd e (by show ¬ (5 : Int) = 4; decide)
    | head s k h es bs s0 k0 k1 h0 e1 e5 => show (es.length : Int) ≤ 2 ^ 68; omega
theorem Wt.inB {n f : Int} {row es : List Int} (h : Wt n f row es) : ∀ x ∈ row, InB x := by
  have sm : ∀ k : Nat, k < 1000 → InB (k : Int) := fun k h => ⟨by omega, by omega⟩
  cases h with
  | beacon h v h0 v0 =>
    intro x m
    simp only [rowB, List.mem_cons, List.not_mem_nil, or_false] at m
    rcases m with rfl | rfl | rfl
    · exact sm 1 (by decide)
    · exact h0
    · exact v0
  | doc cs bs c3 b2 c0 b0 =>
    intro x m
    simp only [rowD, List.mem_cons, List.mem_append] at m
    rcases m with rfl | rfl | m | m
    · exact sm 2 (by decide)
    · exact sm _ (by omega)
    · exact c0 x m
    · exact b0 x m
  | renew d d0 =>
    intro x m
    simp only [rowR, List.mem_cons, List.not_mem_nil, or_false] at m
    rcases m with rfl | rfl
    · exact sm 5 (by decide)
    · exact d0
  | head s k h es bs s0 k0 k1 h0 e1 e5 eb e0 b0 r0 =>
    intro x m
    simp only [rowH, List.mem_cons, List.mem_append, List.not_mem_nil, or_false] at m
    rcases m with (rfl | rfl | rfl | rfl | rfl | rfl) | m
    · exact sm 4 (by decide)
    · exact s0
    · exact ⟨k0, Int.lt_of_le_of_lt k1 (by decide)⟩
    · exact h0
    · exact sm _ (by omega)
    · exact r0
    · exact b0 x m
abbrev It4 := Addr × Addr × (List Int × List Int)
def kvsW (its : List It4) : List (List Key × V) := its.map fun t => (keyOf t.2.2.1, .ref t.2.1)
def lkI : List It4 → List Int → Option It4
  | [], _ => none
  | t :: r, x => if t.2.2.1 = x then some t else lkI r x
theorem valV_kvsW (x : List Int) : ∀ its : List It4, valV (kvsW its) (keyOf x) = (lkI its x).map fun t => V.ref t.2.1
  | [] => rfl
  | t :: r => by
    rw [lkI]
    show valV ((keyOf t.2.2.1, V.ref t.2.1) :: kvsW r) (keyOf x) = _
    by_cases e : t.2.2.1 = x
    · rw [if_pos e, valV_pos (by rw [e])]; rfl
    · rw [if_neg e, valV_neg (fun z => e (keyOf_inj z)), valV_kvsW x r]
theorem lkI_mem : ∀ {its : List It4} {x : List Int} {t : It4}, lkI its x = some t → t ∈ its ∧ t.2.2.1 = x
  | [], x, t, h => nomatch h
  | u :: r, x, t, h => by
    rw [lkI] at h
    by_cases e : u.2.2.1 = x
    · rw [if_pos e] at h
      rw [← Option.some.inj h]; exact ⟨List.mem_cons_self, e⟩
    · rw [if_neg e] at h
      have := lkI_mem h
      exact ⟨List.mem_cons_of_mem _ this.1, this.2⟩
theorem lkI_app {its : List It4} {t : It4} (h : lkI its t.2.2.1 = none) (x : List Int) : lkI (its ++ [t]) x = if t.2.2.1 = x then some t else lkI its x := by
  induction its with
  | nil => simp [lkI]
  | cons u r ih =>
    rw [lkI] at h
    rw [List.cons_append, lkI, lkI]
    by_cases e : u.2.2.1 = t.2.2.1
    · rw [if_pos e] at h; cases h
    · rw [if_neg e] at h
      rw [ih h]
      by_cases e2 : u.2.2.1 = x
      · rw [if_pos e2, if_pos e2, if_neg (fun z => e (e2.trans z.symm))]
      · rw [if_neg e2, if_neg e2]
/-- a world that stands -/
structure WAt (K : PySem.W.Frag) (H : Hp) (w m l1 d l3 : Addr) (n f : Int) (its : List It4) : Prop where
  hw : H w = some (.lst [.ref m, .ref l1, .ref d, .ref l3])
  hm : SqT K H m [.int n, .int f]
  h1 : H l1 = some (.lst (its.map fun t => .ref t.1))
  hd : H d = some (.dT (kvsW its))
  it : ∀ t ∈ its, H t.1 = some (.tup (t.2.2.1.map V.int)) ∧ H t.2.1 = some (.lst (t.2.2.2.map V.int)) ∧ Wt n f t.2.2.1 t.2.2.2
  ds : ∀ t ∈ its, lkI its t.2.2.1 = some t
theorem some_ne {H : Hp} {q l : Addr} {o : HO} (h : H q = some o) (n : H l = none) : q ≠ l := fun e => by rw [e, n] at h; cases h
/-- what is written stands not in the world -/
theorem WAt.new {K : PySem.W.Frag} {A : List Addr} {H H' : Hp} {w m l1 d l3 : Addr} {n f : Int} {its : List It4} (h : WAt K H w m l1 d l3 n f its) (k : Kp A H H') (hA : ∀ l ∈ A, H l = none) : WAt K H' w m l1 d l3 n f its := by
  have kp : ∀ {q o}, H q = some o → H' q = some o := fun {q o} e => k.at (fun m => some_ne e (hA q m) rfl) e
  exact ⟨kp h.hw, k.tup h.hm, kp h.h1, kp h.hd, fun t m => ⟨kp (h.it t m).1, kp (h.it t m).2.1, (h.it t m).2.2⟩, h.ds⟩
theorem WAt.kp {K : PySem.W.Frag} {H H' : Hp} {w m l1 d l3 : Addr} {n f : Int} {its : List It4} (h : WAt K H w m l1 d l3 n f its) (k : Kp [] H H') : WAt K H' w m l1 d l3 n f its := h.new k (fun l m => nomatch m)
theorem Box.neLst {H : Hp} {b r q : Addr} {xs : List V} (bx : Box H b r) (h : H q = some (.lst xs)) (hx : xs.length ≠ 2) : q ≠ b := by
  intro e
  obtain ⟨i, ns, hb, _, _⟩ := bx
  rw [e, hb] at h
  have := HO.lst.inj (Option.some.inj h)
  rw [← this] at hx; exact hx rfl
theorem Box.neRefs {H : Hp} {b r p : Addr} {as : List Addr} (bx : Box H b r) (h : H p = some (.lst (as.map V.ref))) : p ≠ b := by
  intro e
  obtain ⟨i, ns, hb, _, _⟩ := bx
  rw [e, hb] at h
  have h' := HO.lst.inj (Option.some.inj h)
  cases as with
  | nil => cases h'
  | cons x as =>
    cases as with
    | nil => cases h'
    | cons y as => rw [List.map_cons, List.map_cons] at h'; exact nomatch (List.cons.inj (List.cons.inj h').2).1
theorem Box.neRef2 {H : Hp} {b r q : Addr} {α : Type} {g : α → Addr} {as : List α} (bx : Box H b r) (h : H q = some (.lst (as.map fun x => V.ref (g x)))) : q ≠ b :=
  bx.neRefs (as := as.map g) (by rw [List.map_map]; exact h)
theorem Box.neTup {H : Hp} {b r q : Addr} {xs : List V} (bx : Box H b r) (h : H q = some (.tup xs)) : q ≠ b := by
  intro e
  obtain ⟨i, ns, hb, _, _⟩ := bx
  rw [e, hb] at h; cases h
theorem Box.neDT {H : Hp} {b r q : Addr} {xs : List (List Key × V)} (bx : Box H b r) (h : H q = some (.dT xs)) : q ≠ b := by
  intro e
  obtain ⟨i, ns, hb, _, _⟩ := bx
  rw [e, hb] at h; cases h
/-- the box, and what is new -/
theorem WAt.safe {K : PySem.W.Frag} {A : List Addr} {H H' : Hp} {w m l1 d l3 b r : Addr} {n f : Int} {its : List It4} (h : WAt K H w m l1 d l3 n f its) (bx : Box H b r) (k : Kp A H H') (hA : ∀ l ∈ A, l = b ∨ H l = none) : WAt K H' w m l1 d l3 n f its := by
  have kp : ∀ {q o}, H q = some o → q ≠ b → H' q = some o := fun {q o} e ne => k.at (fun m => (hA q m).elim ne (fun z => some_ne e z rfl)) e
  exact ⟨kp h.hw (bx.neLst h.hw (by simp)), k.tup h.hm, kp h.h1 (bx.neRef2 h.h1), kp h.hd (bx.neDT h.hd), fun t m => ⟨kp (h.it t m).1 (bx.neTup (h.it t m).1), kp (h.it t m).2.1 (bx.neInts (h.it t m).2.1), (h.it t m).2.2⟩, h.ds⟩
theorem WAt.draw {K : PySem.W.Frag} {H H' : Hp} {w m l1 d l3 b r : Addr} {n f : Int} {its : List It4} (h : WAt K H w m l1 d l3 n f its) (bx : Box H b r) (k : Kp [b] H H') : WAt K H' w m l1 d l3 n f its := h.safe bx k (fun l m => .inl (List.mem_singleton.mp m))
/-- a service's heads so far -/
def MineAt (K : PySem.W.Frag) (H : Hp) (c : Nat) (j : Addr) : Prop := ∃ mj : List (Addr × List Int), H j = some (.lst (mj.map fun x => V.ref x.1)) ∧ mj.length ≤ c ∧ ∀ x ∈ mj, SqT K H x.1 (x.2.map V.int) ∧ 4 ≤ x.2.length ∧ x.2.length ≤ 100 ∧ 0 ≤ x.2.getD 3 0 ∧ x.2.getD 3 0 ≤ 4 * c
/-- a world that is being made -/
structure WBd (K : PySem.W.Frag) (H : Hp) (w m l1 d l3 s0 s1 s2 r : Addr) (n f : Int) (its : List It4) (c : Nat) : Prop where
  wa : WAt K H w m l1 d l3 n f its
  h3 : H l3 = some (.lst [.ref s0, .ref s1, .ref s2])
  hs : ∀ j ∈ [s0, s1, s2], MineAt K H c j
  ap : ∀ t ∈ its, t.2.1 ∉ [l1, s0, s1, s2]
  nr : r ∉ [l1, s0, s1, s2]
  nd : w ∉ [l1, s0, s1, s2] ∧ l3 ∉ [l1, s0, s1, s2] ∧ l1 ∉ [s0, s1, s2] ∧ s0 ≠ s1 ∧ s0 ≠ s2 ∧ s1 ≠ s2
theorem WBd.safe {K : PySem.W.Frag} {A : List Addr} {H H' : Hp} {w m l1 d l3 s0 s1 s2 b r : Addr} {n f : Int} {its : List It4} {c : Nat} (h : WBd K H w m l1 d l3 s0 s1 s2 r n f its c) (bx : Box H b r) (k : Kp A H H') (hA : ∀ l ∈ A, l = b ∨ H l = none) : WBd K H' w m l1 d l3 s0 s1 s2 r n f its c := by
  have kp : ∀ {q o}, H q = some o → q ≠ b → H' q = some o := fun {q o} e ne => k.at (fun m => (hA q m).elim ne (fun z => some_ne e z rfl)) e
  exact ⟨h.wa.safe bx k hA, kp h.h3 (bx.neLst h.h3 (by simp)), fun j m => by
    obtain ⟨mj, e1, e2, e3⟩ := h.hs j m
    exact ⟨mj, kp e1 (bx.neRef2 e1), e2, fun x m => ⟨k.tup (e3 x m).1, (e3 x m).2⟩⟩, h.ap, h.nr, h.nd⟩
theorem WBd.draw {K : PySem.W.Frag} {H H' : Hp} {w m l1 d l3 s0 s1 s2 b r : Addr} {n f : Int} {its : List It4} {c : Nat} (h : WBd K H w m l1 d l3 s0 s1 s2 r n f its c) (bx : Box H b r) (k : Kp [b] H H') : WBd K H' w m l1 d l3 s0 s1 s2 r n f its c := h.safe bx k (fun l m => .inl (List.mem_singleton.mp m))
theorem WBd.kp {K : PySem.W.Frag} {H H' : Hp} {w m l1 d l3 s0 s1 s2 b r : Addr} {n f : Int} {its : List It4} {c : Nat} (h : WBd K H w m l1 d l3 s0 s1 s2 r n f its c) (bx : Box H b r) (k : Kp [] H H') : WBd K H' w m l1 d l3 s0 s1 s2 r n f its c := h.safe bx k (fun l m => nomatch m)
theorem WBd.mono {K : PySem.W.Frag} {H : Hp} {w m l1 d l3 s0 s1 s2 r : Addr} {n f : Int} {its : List It4} {c c' : Nat} (h : WBd K H w m l1 d l3 s0 s1 s2 r n f its c) (hc : c ≤ c') : WBd K H w m l1 d l3 s0 s1 s2 r n f its c' := ⟨h.wa, h.h3, fun j m => by
  obtain ⟨mj, e1, e2, e3⟩ := h.hs j m
  exact ⟨mj, e1, by omega, fun x m => ⟨(e3 x m).1, (e3 x m).2.1, (e3 x m).2.2.1, (e3 x m).2.2.2.1, by have := (e3 x m).2.2.2.2; omega⟩⟩, h.ap, h.nr, h.nd⟩
/-- a head more -/
theorem WBd.push {K : PySem.W.Frag} {H H' : Hp} {w m l1 d l3 s0 s1 s2 r j a : Addr} {n f : Int} {its : List It4} {c : Nat} {mj : List (Addr × List Int)} {row : List Int} (h : WBd K H w m l1 d l3 s0 s1 s2 r n f its c) (hj : j ∈ [s0, s1, s2]) (k : Kp [j] H H') (e0 : H j = some (.lst (mj.map fun x => V.ref x.1))) (e1 : H' j = some (.lst ((mj ++ [(a, row)]).map fun x => V.ref x.1))) (lm : mj.length ≤ c) (hm : ∀ x ∈ mj ++ [(a, row)], SqT K H x.1 (x.2.map V.int) ∧ 4 ≤ x.2.length ∧ x.2.length ≤ 100 ∧ 0 ≤ x.2.getD 3 0 ∧ x.2.getD 3 0 ≤ 4 * ((c + 1 : Nat) : Int)) : WBd K H' w m l1 d l3 s0 s1 s2 r n f its (c + 1) := by
  obtain ⟨n1, n2, n3, n4, n5, n6⟩ := h.nd
  have jl : j ∈ [l1, s0, s1, s2] := List.mem_cons_of_mem _ hj
  have nj : ∀ {q}, q ∉ [l1, s0, s1, s2] → q ≠ j := fun hq e => hq (by rw [e]; exact jl)
  have ntup : ∀ {q o}, H q = some o → (∀ xs, o ≠ .lst xs) → q ≠ j := fun hq ho e => by rw [e, e0] at hq; exact ho _ (Option.some.inj hq).symm
  refine ⟨⟨k.at1 (nj n1) h.wa.hw, k.tup h.wa.hm, k.at1 (fun e => n3 (by rw [e]; exact hj)) h.wa.h1, k.at1 (ntup h.wa.hd (fun _ z => nomatch z)) h.wa.hd, fun t m => ⟨k.t _ _ (h.wa.it t m).1, k.at1 (nj (h.ap t m)) (h.wa.it t m).2.1, (h.wa.it t m).2.2⟩, h.wa.ds⟩, k.at1 (nj n2) h.h3, fun i mi => ?_, h.ap, h.nr, h.nd⟩
  by_cases e : i = j
  · subst e
    exact ⟨_, e1, by simp; omega, fun x m => ⟨k.tup (hm x m).1, (hm x m).2⟩⟩
  · obtain ⟨mi', f1, f2, f3⟩ := h.hs i mi
    exact ⟨mi', k.at1 e f1, by omega, fun x m => ⟨k.tup (f3 x m).1, (f3 x m).2.1, (f3 x m).2.2.1, (f3 x m).2.2.2.1, by have := (f3 x m).2.2.2.2; omega⟩⟩
theorem sel3 {s0 s1 s2 : Addr} {v : Int} (h0 : 0 ≤ v) (h1 : v < 3) : ∃ sj ∈ [s0, s1, s2], atI [V.ref s0, V.ref s1, V.ref s2] v = some (.ref sj) := by
  have : v = 0 ∨ v = 1 ∨ v = 2 := by omega
  rcases this with rfl | rfl | rfl
  · exact ⟨s0, by simp, Z.at0⟩
  · exact ⟨s1, by simp, Z.at1⟩
  · exact ⟨s2, by simp, Z.at2⟩
theorem pickR {its : List It4} {v : Int} (h0 : 0 ≤ v) (h1 : v < its.length) : ∃ t ∈ its, atI (its.map fun t => V.ref t.1) v = some (.ref t.1) := by
  obtain ⟨v, rfl⟩ := Int.eq_ofNat_of_zero_le h0
  have hv : v < its.length := by omega
  exact ⟨its[v], List.getElem_mem hv, at_nat (by rw [List.getElem?_map, List.getElem?_eq_getElem hv]; rfl)⟩
/-! _law_new_head -/
section
local macro_rules | `(tactic| wtm_at "d") => `(tactic| first | ((with_reducible show Z.XE _ (PySem.Expr.Call (PySem.Expr.Name "int" _) (_ :: _) [] _) _ _ _); refine Z.xe_callTy (id := "int") (by assumption) (by wtm_at "m") T.b_int (by decide +kernel) ?_) | ((with_reducible show Z.XE _ (PySem.Expr.Name "int" _) _ _ _); refine Z.xe_ty (id := "int") (by assumption) (by wtm_at "m") T.b_int (by decide +kernel) ?_) | ((with_reducible show Z.XE _ (PySem.Expr.Call (PySem.Expr.Name "len" _) (_ :: _) [] _) _ _ _); refine Z.xe_callB (id := "len") (by assumption) (by wtm_at "m") T.b_len (by decide +kernel) ?_) | ((with_reducible show Z.XE _ (PySem.Expr.Call (PySem.Expr.Name "tuple" _) (_ :: _) [] _) _ _ _); refine Z.xe_callTy (id := "tuple") (by assumption) (by wtm_at "m") T.b_tuple (by decide +kernel) ?_) | ((with_reducible show Z.XE _ (PySem.Expr.Name "tuple" _) _ _ _); refine Z.xe_ty (id := "tuple") (by assumption) (by wtm_at "m") T.b_tuple (by decide +kernel) ?_) | ((with_reducible show Z.XE _ (PySem.Expr.Call (PySem.Expr.Name "_law_draw" _) (_ :: _) [] _) _ _ _); refine Z.xe_call (by assumption) (Law.ok__law_draw T) (by wtm_at "m") (by omega) ?_) | ((with_reducible show Z.XE _ (PySem.Expr.Call (PySem.Expr.Name "_law_digest" _) (_ :: _) [] _) _ _ _); refine Z.xe_call (by assumption) (Law.ok__law_digest T) (by wtm_at "m") (by omega) ?_) | ((with_reducible show Z.XE _ (PySem.Expr.Call (PySem.Expr.Name "_law_number" _) (_ :: _) [] _) _ _ _); refine Z.xe_call (by assumption) (Law.ok__law_number T) (by wtm_at "m") (by omega) ?_) | ((with_reducible show Z.XE _ (PySem.Expr.Call (PySem.Expr.Name "_law_backs" _) (_ :: _) [] _) _ _ _); refine Z.xe_call (by assumption) (Law.ok__law_backs T) (by wtm_at "m") (by omega) ?_) | ((with_reducible show Z.XE _ (PySem.Expr.Call (PySem.Expr.Name "_law_root" _) (_ :: _) [] _) _ _ _); refine Z.xe_call (by assumption) (Law.ok__law_root T) (by wtm_at "m") (by omega) ?_) | fail)
theorem rt_in {n f : Int} {P : Int → Prop} {es : List Int} (h1 : 1 ≤ es.length) (he : ∀ x ∈ es, P x) (hd : ∀ rs : List Int, P (dig n f rs)) : P (rt n f es) := by
  by_cases h : 2 ≤ es.length
  · rw [rt_two h]; exact hd _
  · rw [rt_one h]
    cases es with
    | nil => simp at h1
    | cons x r => exact he x List.mem_cons_self
def sp_newHead (K : PySem.W.Frag) : Sp := fun vs H Q _ => ∃ (b r w m l1 d l3 s0 s1 s2 : Addr) (n f : Int) (its : List It4) (c : Nat), vs = [.ref b, .ref w] ∧ Box H b r ∧ WBd K H w m l1 d l3 s0 s1 s2 r n f its c ∧ its.length ≤ 60 ∧ c ≤ 60 ∧ 0 < n ∧ n ≤ 2 ^ 64 ∧
  ∀ (q a e : Addr) (row es : List Int) H', Kp [b, s0, s1, s2] H H' → Box H' b r → WBd K H' w m l1 d l3 s0 s1 s2 r n f its (c + 1) → H q = none → H e = none → H' q = some (.lst [.ref a, .ref e]) → H' a = some (.tup (row.map V.int)) → H' e = some (.lst (es.map V.int)) → Wt n f row es → Q (.ref q) H'
theorem ok__law_new_head (T : Txt P w K mg base) : DefOk P w K mg base "_law_new_head" ["box", "world"] 14 (sp_newHead K) := by
  refine DefOk.by T.d__law_new_head sc__law_new_head oc__law_new_head (fun vs H Q E h => ?_) (fun X e1 e2 e3 e4 e5 C H vs Q E h => ?_)
  · obtain ⟨b, r, w, m, l1, d, l3, s0, s1, s2, n, f, its, c, rfl, _⟩ := h; rfl
  · obtain ⟨b, r, w, m, l1, d, l3, s0, s1, s2, n, f, its, c, rfl, bx, W, li, lc, hn, n64, q⟩ := h
    have dB : ∀ rs : List Int, InB (dig n f rs) := fun rs => ⟨(dig_rng hn).1, Int.lt_of_lt_of_le (dig_rng hn).2 (by omega)⟩
    have mB : ∀ y : Int, InB (y % n) := fun y => ⟨Int.emod_nonneg _ (by omega), Int.lt_of_lt_of_le (Int.emod_lt_of_pos _ hn) (by omega)⟩
    wtm_at "go"
    wtm_at "w"
    refine ⟨b, r, 3, rfl, bx, by decide, fun sv H1 v0 v1 k1 bx1 => ?_⟩
    have W1 := W.draw bx k1
    have hw1 := W1.wa.hw
    have h31 := W1.h3
    obtain ⟨sj, sm, hsj⟩ := sel3 (s0 := s0) (s1 := s1) (s2 := s2) v0 v1
    obtain ⟨mj, m1, m2, m3⟩ := W1.hs sj sm
    have hid1 : Kp [b] H H1 ∧ True := ⟨k1, trivial⟩
    clear k1 W
    wtm_at "w"
    refine vx_lst (Z.SqL.of' h31) hsj ?_
    wtm_at "w"
    rw [List.length_map]
    refine ⟨b, r, 3, rfl, bx1, by decide, fun hr H2 h0 h1 k2 bx2 => ?_⟩
    have W2 := W1.draw bx1 k2
    have m12 := k2.at1 (bx1.neRef2 m1) m1
    have m32 : ∀ x ∈ mj, SqT X.K H2 x.1 (x.2.map V.int) ∧ 4 ≤ x.2.length ∧ x.2.length ≤ 100 ∧ 0 ≤ x.2.getD 3 0 ∧ x.2.getD 3 0 ≤ 4 * c := fun x mx => ⟨k2.tup (m3 x mx).1, (m3 x mx).2⟩
    have k02 := hid1.1.tr1 k2 (.inl (by simp))
    clear k2 W1 hid1 m1 m3 hw1 h31 bx1
    refine ⟨_, by wtm_at "u", ?_⟩
    refine xb_cons (XS.imp (nx := fun σ H' => ∃ hour : Int, 0 ≤ hour ∧ hour ≤ 4 * c + 4 ∧ σ = [some (.ref b), some (.ref w), some (.int sv), some (.ref sj), some (.int (mj.length : Int)), some (.int hour), none, none, none, none, none] ∧ Kp [b] H2 H' ∧ Box H' b r) ?_ ?_)
    · wtm_at "w"
      refine ite_d (fun hl => ?_) (fun hl => ?_)
      · have ll : mj.length - 1 < mj.length := by omega
        have mm := m32 mj[mj.length - 1] (List.getElem_mem ll)
        have hx : atI (mj.map fun x => V.ref x.1) (-1) = some (.ref mj[mj.length - 1].1) := at_getLast (by rw [List.getLast?_eq_getElem?, List.length_map, List.getElem?_map, List.getElem?_eq_getElem ll]; rfl)
        generalize mj[mj.length - 1] = last at mm hx
        obtain ⟨g1, g2, _, g3, g4⟩ := mm
        wtm_at "w"
        refine vx_lst (Z.SqL.of' m12) hx ?_
        wtm_at "w"
        refine vx_tup g1 (at_getD 3 (by omega)) ?_
        wtm_at "w"
        refine ⟨b, r, 3, rfl, bx2, by decide, fun y H3 y0 y1 k3 bx3 => ?_⟩
        wtm_at "w"
        exact ⟨_, by omega, by omega, rfl, k3, bx3⟩
      · wtm_at "w"
        exact ⟨_, h0, by omega, rfl, Kp.refl _ _, bx2⟩
    rintro σ3 H3 ⟨hour, hh0, hh1, rfl, k3, bx3⟩
    have W3 := W2.draw bx2 k3
    have m13 := k3.at1 (bx2.neRef2 m12) m12
    have m33 : ∀ x ∈ mj, SqT X.K H3 x.1 (x.2.map V.int) ∧ 4 ≤ x.2.length ∧ x.2.length ≤ 100 ∧ 0 ≤ x.2.getD 3 0 ∧ x.2.getD 3 0 ≤ 4 * c := fun x mx => ⟨k3.tup (m32 x mx).1, (m32 x mx).2⟩
    have k03 := k02.tr1 k3 (.inl (by simp))
    have hid3 : Kp [b] H H3 ∧ True := ⟨k03, trivial⟩
    clear k3 k02 W2 m12 m32 bx2 k03
    wtm_at "w"
    intro E4 H4 k4 nE hE
    have L4 := LcI.start (P := InB) bx3 k4 nE hE
    have k34 : Kp [] H3 H4 ∧ True := ⟨k4, trivial⟩
    have m14 := k4.at0 m13
    clear k4 hE
    wtm_at "w"
    refine xs_forR1 (by assumption) (by wtm_at "m") T.b_range ?_
    wtm_at "w"
    have bx4 := L4.2.2.1
    refine ⟨b, r, 5, rfl, bx4, by decide, fun cnt H5 c0 c1 k5 bx5 => ?_⟩
    have L5 : LcI InB H4 b r E4 0 H5 := by
      obtain ⟨nl, kk, bb, ns, e1, e2, e3⟩ := L4
      exact ⟨nl, kk.tr1 k5 (.inl (by simp)), bx5, ns, k5.at1 nl.1.symm e1, e2, e3⟩
    clear k5
    wtm_at "w"
    have ec : (1 + cnt).toNat = cnt.toNat + 1 := by omega
    refine ⟨_, rfl, by omega, by omega, fun t σ H' => ∃ v : Option V, σ = [some (.ref b), some (.ref w), some (.int sv), some (.ref sj), some (.int (mj.length : Int)), some (.int hour), some (.ref E4), v, none, none, none] ∧ LcI InB H4 b r E4 t H', ⟨_, rfl, L5⟩, ?_, ?_⟩
    · rintro t σ' H6 ht ⟨v, rfl, L6⟩
      have ht5 : t < 5 := by omega
      have k36 := L6.kp k34.1 nE
      have W6 := W3.wa.draw bx3 k36
      obtain ⟨nl, _, bx6, ns, e1, e2, e3⟩ := id L6
      have hw6 := W6.hw
      have h16 := W6.h1
      have hm6 := W6.hm
      have fin : ∀ (x : Int) (H7 : Hp), InB x → Kp [b] H6 H7 → Box H7 b r → H7 E4 = some (.lst (ns.map V.int)) ∧ (ns.map V.int).length < sizeLine ∧ ∀ H8, Kp [E4] H7 H8 → H8 E4 = some (.lst (ns.map V.int ++ [.int x])) → ∃ v : Option V, [some (.ref b), some (.ref w), some (.int sv), some (.ref sj), some (.int (mj.length : Int)), some (.int hour), some (.ref E4), some (.int (t : Int)), none, none, none] = [some (.ref b), some (.ref w), some (.int sv), some (.ref sj), some (.int (mj.length : Int)), some (.int hour), some (.ref E4), v, none, none, none] ∧ LcI InB H4 b r E4 (t + 1) H8 := fun x H7 x0 k7 bx7 =>
        ⟨k7.at1 nl.1.symm e1, szl (by rw [List.length_map]; omega), fun H8 k8 h8 => ⟨_, rfl, L6.push e2 e3 k7 bx7 x0 k8 h8⟩⟩
      clear k36 L6
      refine xg_name C (by wtm_at "m") (by wtm_at "m") ?_
      refine ⟨_, by wtm_at "u", ?_⟩
      refine xb_cons (xs_if (XT.mono (Q := fun kb H1 => Kp [b] H6 H1 ∧ Box H1 b r ∧ (kb = true → 0 < its.length)) ?_ ?_))
      · wtm_at "w"
        rw [List.length_map]
        refine ite_d (fun c1 => ?_) (fun c1 => ?_)
        · wtm_at "w"
          refine ⟨b, r, 6, rfl, bx6, by decide, fun x H7 x0 x1 k7 bx7 => ?_⟩
          wtm_at "w"
          exact ⟨k7, bx7, fun _ => by omega⟩
        · exact ⟨Kp.refl _ _, bx6, fun z => nomatch z⟩
      · rintro kb H7 ⟨k7, bx7, hl⟩
        have hE7 := k7.at1 nl.1.symm e1
        have W7 := W6.draw bx6 k7
        have hw7 := W7.hw
        have h17 := W7.h1
        have hm7 := W7.hm
        have hid7 : Kp [b] H6 H7 ∧ True := ⟨k7, trivial⟩
        clear k7 W6 hw6 h16 hm6
        refine ite_b (fun c => ?_) (fun c => ?_)
        · have hl' := hl c
          wtm_at "w"
          rw [List.length_map]
          refine ⟨b, r, _, rfl, bx7, by omega, fun y H8 y0 y1 k8 bx8 => ?_⟩
          have W8 := W7.draw bx7 k8
          have h18 := W8.h1
          have hm8 := W8.hm
          have k68 := hid7.1.tr1 k8 (.inl (by simp))
          obtain ⟨t8, tm, ht8⟩ := pickR y0 y1
          obtain ⟨g1, g2, g3⟩ := W8.it t8 tm
          have gl := g3.len
          clear k8
          refine vx_lst (Z.SqL.of' h18) ht8 ?_
          wtm_at "w"
          refine ⟨m, t8.1, n, f, t8.2.2.1, rfl, hm8, Z.SqT.of' g1, hn, by omega, fun H9 k9 => ?_⟩
          wtm_at "w"
          obtain ⟨a1, a2, a3⟩ := fin (dig n f t8.2.2.1) H9 (dB _) (k68.tr0 k9) (bx8.kp k9)
          exact ⟨a1, a2, fun H' k' h' => xb_nil (xb_nil (a3 H' k' h'))⟩
        · wtm_at "w"
          refine ⟨b, r, rfl, bx7, fun y H8 y0 y1 k8 bx8 => ?_⟩
          have W8 := W7.draw bx7 k8
          have hw8 := W8.hw
          have hm8 := W8.hm
          have k68 := hid7.1.tr1 k8 (.inl (by simp))
          clear k8
          wtm_at "w"
          refine vo_mod hn ?_
          wtm_at "w"
          obtain ⟨a1, a2, a3⟩ := fin (y % n) H8 (mB _) k68 bx8
          exact ⟨a1, a2, fun H' k' h' => xb_nil (xb_nil (a3 H' k' h'))⟩
    · rintro σ' H6 ⟨v, rfl, L6⟩
      have k36 := L6.kp k34.1 nE
      have W6 := W3.draw bx3 k36
      obtain ⟨nl, _, bx6, es, he6, les, hes⟩ := id L6
      have m16 := k36.at1 (bx3.neRef2 m13) m13
      have m36 : ∀ x ∈ mj, SqT X.K H6 x.1 (x.2.map V.int) ∧ 4 ≤ x.2.length ∧ x.2.length ≤ 100 ∧ 0 ≤ x.2.getD 3 0 ∧ x.2.getD 3 0 ≤ 4 * c := fun x mx => ⟨k36.tup (m33 x mx).1, (m33 x mx).2⟩
      have k06 := hid3.1.tr1 k36 (.inl (by simp))
      have nE0 : H E4 = none := hid3.1.n _ nE
      have lm60 : mj.length ≤ 60 := by omega
      have esj : E4 ≠ sj := ne_of_none m13 nE |>.symm
      clear k36 L6 W3 m13 m33 k34 L4 L5 m14 bx3 bx4 bx5 hid3
      refine xb_cons ?_
      refine xs_setLc C (by wtm_at "m") (by decide +kernel) rfl (by decide +kernel) ?_
      refine xlc_L (Vs' := ["world", "mine", "one"]) (G' := ["_law_digest"]) (nm := "one") (i := 10) (by assumption) ⟨rfl, by decide +kernel, by decide +kernel, rfl, by decide +kernel, by decide⟩ ?_
      wtm_at "w"
      refine ⟨_, rfl, by omega, by omega, fun bl H7 k7 nb hb => ?_⟩
      refine ⟨bl, _, rfl, Z.SqL.of' hb, fun L H8 k8 nL hL => ?_⟩
      refine ⟨fun t H' => Kp [] H6 H' ∧ H' bl = some (.lst ((bkTo mj.length (cntB mj.length)).map V.int)) ∧ ∃ bs : List Int, H' L = some (.lst (bs.map V.int)) ∧ bs.length = t ∧ ∀ x ∈ bs, InB x, ⟨k7.tr0 k8, k8.at0 hb, [], hL, rfl, fun _ m => nomatch m⟩, ?_, ?_, ?_⟩
      · rintro t H' _ ⟨_, h', _⟩
        exact Z.SqL.of' h'
      · rintro t y H9 hy ⟨k9, b9, bs, h9, l9, p9⟩
        have nL6 := k7.n _ nL
        obtain ⟨v, hv, rfl⟩ := map_at hy
        obtain ⟨v0, vi⟩ := bkTo_in hv
        have tl := (List.getElem?_eq_some_iff.mp hv).1
        rw [bkTo_len] at tl
        have c7 := cnt_le (m := 7) (n := (mj.length : Int)) (by omega) (by omega)
        have W9 := W6.wa.kp k9
        have hw9 := W9.hw
        have hm9 := W9.hm
        have m19 := k9.at0 m16
        obtain ⟨g1, g2, g3, g4, g5⟩ := m36 mj[v.toNat] (List.getElem_mem vi)
        have hx : atI (mj.map fun x => V.ref x.1) v = some (.ref mj[v.toNat].1) := by
          have := at_nat (xs := mj.map fun x => V.ref x.1) (t := v.toNat) (y := .ref mj[v.toNat].1) (by rw [List.getElem?_map, List.getElem?_eq_getElem vi]; rfl)
          rwa [Int.toNat_of_nonneg v0] at this
        generalize mj[v.toNat] = last at g1 g2 g3 hx
        have g19 := k9.tup g1
        refine ⟨_, by wtm_at "u", ?_⟩
        intro s0' H0' c' cl' fp C'
        have hid9 : Kp [] H6 H9 ∧ True := ⟨k9, trivial⟩
        clear k7 k8 k9
        wtm_at "w"
        refine vx_lst (Z.SqL.of' m19) hx ?_
        wtm_at "w"
        refine ⟨m, last.1, n, f, last.2, rfl, hm9, g19, hn, by omega, fun H10 k10 => ?_⟩
        refine ⟨_, k10.at0 h9, szl (by rw [List.length_map]; omega), fun H11 k11 h11 => ⟨(hid9.1.tr0 k10).tr1 k11 (.inr nL6), k11.at1 (ne_of_none hb nL) (k10.at0 b9), bs ++ [dig n f last.2], by rw [h11, List.map_append]; rfl, by simp [l9], fun x mx => ?_⟩⟩
        rcases List.mem_append.mp mx with z | z
        · exact p9 x z
        · rw [List.mem_singleton.mp z]; exact dB _
      · rintro H9 ⟨k9, b9, bs, h9, l9, p9⟩
        rw [List.length_map, bkTo_len] at l9
        have W9 := W6.kp bx6 k9
        have hw9 := W9.wa.hw
        have hm9 := W9.wa.hm
        have he9 := k9.at0 he6
        have m19 := k9.at0 m16
        have bx9 := bx6.kp k9
        have k09 := k06.tr0 k9
        have m39 : ∀ x ∈ mj, SqT X.K H9 x.1 (x.2.map V.int) ∧ 4 ≤ x.2.length ∧ x.2.length ≤ 100 ∧ 0 ≤ x.2.getD 3 0 ∧ x.2.getD 3 0 ≤ 4 * c := fun x mx => ⟨k9.tup (m36 x mx).1, (m36 x mx).2⟩
        have c7 := cnt_le (m := 7) (n := (mj.length : Int)) (by omega) (by omega)
        clear k7 k8 k9 W6 he6 m16 m36 k06 bx6 hb
        refine ⟨_, by wtm_at "u", ?_⟩
        wtm_at "w"
        refine ⟨m, E4, n, f, es, rfl, hm9, Z.SqL.of' he9, by omega, by omega, hn, fun H10 k10 => ?_⟩
        have W10 := W9.kp bx9 k10
        have he10 := k10.at0 he9
        have h10 := k10.at0 h9
        have m110 := k10.at0 m19
        have bx10 := bx9.kp k10
        have k010 := k09.tr0 k10
        have m310 : ∀ x ∈ mj, SqT X.K H10 x.1 (x.2.map V.int) ∧ 4 ≤ x.2.length ∧ x.2.length ≤ 100 ∧ 0 ≤ x.2.getD 3 0 ∧ x.2.getD 3 0 ≤ 4 * c := fun x mx => ⟨k10.tup (m39 x mx).1, (m39 x mx).2⟩
        clear k10 W9 he9 h9 m19 bx9 k09 m39 hw9 hm9
        wtm_at "w"
        intro p1 H11 k11 _ hp1
        have h11 := k11.at0 h10
        have hid11 : Kp [] H10 H11 ∧ True := ⟨k11, trivial⟩
        clear k11
        wtm_at "w"
        refine vc_tupLP (Z.SqL.of' h11) (fun p2 H12 k12 hp2 => ?_)
        refine vo_catP (k12.at0 hp1) hp2 (sz_ (by simp; omega)) (fun p3 H13 k13 hp3 => ?_)
        have k1013 := (hid11.1.tr0 k12).tr0 k13
        have W13 := W10.kp bx10 k1013
        have he13 := k1013.at0 he10
        have m113 := k1013.at0 m110
        have bx13 := bx10.kp k1013
        have k013 := k010.tr0 k1013
        have m313 : ∀ x ∈ mj, SqT X.K H13 x.1 (x.2.map V.int) ∧ 4 ≤ x.2.length ∧ x.2.length ≤ 100 ∧ 0 ≤ x.2.getD 3 0 ∧ x.2.getD 3 0 ≤ 4 * c := fun x mx => ⟨k1013.tup (m310 x mx).1, (m310 x mx).2⟩
        have er : ([V.int 4, V.int sv, V.int (mj.length : Int), V.int hour, V.int ((es.map V.int).length : Int), V.int (rt n f es)] ++ bs.map V.int) = (rowH n f sv mj.length hour es bs).map V.int := by
          rw [List.length_map]; unfold rowH; simp
        rw [er] at hp3
        clear k12 k13 k1013 hid11 W10 he10 m110 bx10 k010 m310 h10 h11 hp1 hp2
        have wt : Wt n f (rowH n f sv mj.length hour es bs) es := .head sv mj.length hour es bs ⟨v0, by omega⟩ (by omega) (by omega) ⟨hh0, by omega⟩ (by omega) (by omega) l9 hes p9 (rt_in (by omega) hes dB)
        wtm_at "w"
        refine ⟨m113, szl (by rw [List.length_map]; omega), fun H14 k14 h14 => ?_⟩
        have rl := wt.len
        have nrw := W13.nr
        have W14 := W13.push (a := p3) (row := rowH n f sv mj.length hour es bs) sm k14 m113 (by rw [h14, List.map_append]; rfl) (by omega) (fun x mx => by
          rcases List.mem_append.mp mx with z | z
          · exact ⟨(m313 x z).1, (m313 x z).2.1, (m313 x z).2.2.1, (m313 x z).2.2.2.1, by have := (m313 x z).2.2.2.2; omega⟩
          · rw [List.mem_singleton.mp z]
            exact ⟨Z.SqT.of' hp3, by simp [rowH], rl, hh0, by show hour ≤ _; omega⟩)
        have nb : b ≠ sj := (bx13.neRef2 m113).symm
        have nr : r ≠ sj := fun e => W13.nr (by rw [e]; exact List.mem_cons_of_mem _ sm)
        have bx14 := bx13.kp1 k14 ⟨nb, nr⟩
        have he14 := k14.at1 esj he13
        have hp14 := k14.t _ _ hp3
        have k014 : Kp [b, s0, s1, s2] H H14 := (k013.wk (fun l m => by rw [List.mem_singleton.mp m]; simp)).tr1 k14 (.inl (List.mem_cons_of_mem _ sm))
        clear k14 k013 he13 bx13 W13 m113 m313
        wtm_at "w"
        intro qq H15 k15 n15 h15
        exact q qq p3 E4 _ es H15 (k014.tr0 k15) (bx14.kp k15) (W14.kp bx14 k15) (k014.n _ n15) nE0 h15 (k15.at0 hp14) (k15.at0 he14) wt
end
/-! _law_new_thing -/
section
local macro_rules | `(tactic| wtm_at "d") => `(tactic| first | ((with_reducible show Z.XE _ (PySem.Expr.Call (PySem.Expr.Name "int" _) (_ :: _) [] _) _ _ _); refine Z.xe_callTy (id := "int") (by assumption) (by wtm_at "m") T.b_int (by decide +kernel) ?_) | ((with_reducible show Z.XE _ (PySem.Expr.Name "int" _) _ _ _); refine Z.xe_ty (id := "int") (by assumption) (by wtm_at "m") T.b_int (by decide +kernel) ?_) | ((with_reducible show Z.XE _ (PySem.Expr.Call (PySem.Expr.Name "len" _) (_ :: _) [] _) _ _ _); refine Z.xe_callB (id := "len") (by assumption) (by wtm_at "m") T.b_len (by decide +kernel) ?_) | ((with_reducible show Z.XE _ (PySem.Expr.Call (PySem.Expr.Name "tuple" _) (_ :: _) [] _) _ _ _); refine Z.xe_callTy (id := "tuple") (by assumption) (by wtm_at "m") T.b_tuple (by decide +kernel) ?_) | ((with_reducible show Z.XE _ (PySem.Expr.Name "tuple" _) _ _ _); refine Z.xe_ty (id := "tuple") (by assumption) (by wtm_at "m") T.b_tuple (by decide +kernel) ?_) | ((with_reducible show Z.XE _ (PySem.Expr.Call (PySem.Expr.Name "_law_draw" _) (_ :: _) [] _) _ _ _); refine Z.xe_call (by assumption) (Law.ok__law_draw T) (by wtm_at "m") (by omega) ?_) | ((with_reducible show Z.XE _ (PySem.Expr.Call (PySem.Expr.Name "_law_digest" _) (_ :: _) [] _) _ _ _); refine Z.xe_call (by assumption) (Law.ok__law_digest T) (by wtm_at "m") (by omega) ?_) | ((with_reducible show Z.XE _ (PySem.Expr.Call (PySem.Expr.Name "_law_number" _) (_ :: _) [] _) _ _ _); refine Z.xe_call (by assumption) (Law.ok__law_number T) (by wtm_at "m") (by omega) ?_) | ((with_reducible show Z.XE _ (PySem.Expr.Call (PySem.Expr.Name "_law_new_head" _) (_ :: _) [] _) _ _ _); refine Z.xe_call (by assumption) (Law.ok__law_new_head T) (by wtm_at "m") (by omega) ?_) | fail)
theorem ok__law_new_thing (T : Txt P w K mg base) : DefOk P w K mg base "_law_new_thing" ["box", "world"] 15 (sp_newHead K) := by
  refine DefOk.by T.d__law_new_thing sc__law_new_thing oc__law_new_thing (fun vs H Q E h => ?_) (fun X e1 e2 e3 e4 e5 C H vs Q E h => ?_)
  · obtain ⟨b, r, w, m, l1, d, l3, s0, s1, s2, n, f, its, c, rfl, _⟩ := h; rfl
  · obtain ⟨b, r, w, m, l1, d, l3, s0, s1, s2, n, f, its, c, rfl, bx, W, li, lc, hn, n64, q⟩ := h
    have dB : ∀ rs : List Int, InB (dig n f rs) := fun rs => ⟨(dig_rng hn).1, Int.lt_of_lt_of_le (dig_rng hn).2 (by omega)⟩
    have fin : ∀ (q' a e : Addr) (row : List Int) H', Kp [b] H H' → Box H' b r → H q' = none → H e = none → H' q' = some (.lst [.ref a, .ref e]) → H' a = some (.tup (row.map V.int)) → H' e = some (.lst []) → Wt n f row [] → Q (.ref q') H' :=
      fun q' a e row H' k bx' nq ne h1 h2 h3 wt => q q' a e row [] H' (k.wk (fun l m => by rw [List.mem_singleton.mp m]; simp)) bx' ((W.draw bx k).mono (by omega)) nq ne h1 h2 h3 wt
    wtm_at "go"
    wtm_at "w"
    refine ⟨b, r, 8, rfl, bx, by decide, fun kd H1 kd0 kd1 k1 bx1 => ?_⟩
    have W1 := W.draw bx k1
    have hid1 : Kp [b] H H1 ∧ True := ⟨k1, trivial⟩
    clear k1
    wtm_at "w"
    refine ite_d (fun _ => ?_) (fun _ => ?_)
    · wtm_at "w"
      refine ⟨b, r, w, m, l1, d, l3, s0, s1, s2, n, f, its, c, rfl, bx1, W1, li, lc, hn, n64, fun q' a e row es H2 k2 bx2 W2 nq ne h1 h2 h3 wt => ?_⟩
      exact q q' a e row es H2 ((hid1.1.wk (fun l m => by rw [List.mem_singleton.mp m]; simp)).tr k2 (fun l m => .inl m)) bx2 W2 (hid1.1.n _ nq) (hid1.1.n _ ne) h1 h2 h3 wt
    · wtm_at "w"
      refine ite_d (fun _ => ?_) (fun _ => ?_)
      · wtm_at "w"
        refine ⟨b, r, 9, rfl, bx1, by decide, fun h H3 h0 h1 k3 b3 => ?_⟩
        wtm_at "w"
        refine ⟨b, r, rfl, b3, fun v H4 v0 v1 k4 b4 => ?_⟩
        have kH4 := (hid1.1.tr1 k3 (.inl (by simp))).tr1 k4 (.inl (by simp))
        clear k3 k4 hid1
        wtm_at "w"
        intro tp H5 k5 _ htp
        wtm_at "w"
        intro e H6 k6 ne he
        wtm_at "w"
        intro pr H7 k7 npr hpr
        exact fin pr tp e (rowB h v) H7 (((kH4.tr0 k5).tr0 k6).tr0 k7) (((b4.kp k5).kp k6).kp k7) (((kH4.tr0 k5).tr0 k6).n _ npr) ((kH4.tr0 k5).n _ ne) hpr (k7.at0 (k6.at0 htp)) (k7.at0 he) (.beacon h v ⟨h0, by omega⟩ ⟨v0, v1⟩)
      · wtm_at "w"
        refine ite_d (fun _ => ?_) (fun _ => ?_)
        · wtm_at "w"
          refine ⟨b, r, rfl, bx1, fun v H4 v0 v1 k4 b4 => ?_⟩
          have W4 := W1.draw bx1 k4
          have hw4 := W4.wa.hw
          have hm4 := W4.wa.hm
          have kH4 := hid1.1.tr1 k4 (.inl (by simp))
          clear k4 hid1
          wtm_at "w"
          refine vo_mod hn ?_
          have y0 : InB (v % n) := ⟨Int.emod_nonneg _ (by omega), Int.lt_of_lt_of_le (Int.emod_lt_of_pos _ hn) (by omega)⟩
          generalize v % n = y at y0
          wtm_at "w"
          intro tp H5 k5 _ htp
          wtm_at "w"
          intro e H6 k6 ne he
          wtm_at "w"
          intro pr H7 k7 npr hpr
          exact fin pr tp e (rowR y) H7 (((kH4.tr0 k5).tr0 k6).tr0 k7) (((b4.kp k5).kp k6).kp k7) (((kH4.tr0 k5).tr0 k6).n _ npr) ((kH4.tr0 k5).n _ ne) hpr (k7.at0 (k6.at0 htp)) (k7.at0 he) (.renew y y0)
        · wtm_at "w"
          intro E4 H4 k4 nE hE
          have W4 := W1.kp bx1 k4
          have bx4 := bx1.kp k4
          have kH4 := hid1.1.tr0 k4
          have nE0 := hid1.1.n _ nE
          have nlE := bx1.nl nE
          clear k4 W1 hid1
          wtm_at "w"
          refine xs_forR1 (by assumption) (by wtm_at "m") T.b_range ?_
          wtm_at "w"
          refine ⟨b, r, 4, rfl, bx4, by decide, fun cnt H5 c0 c1 k5 bx5 => ?_⟩
          have W5 := W4.draw bx4 k5
          have hE5 := k5.at1 nlE.1.symm hE
          have kH5 := kH4.tr1 k5 (.inl (by simp))
          clear k5 W4 bx4 kH4 hE
          wtm_at "w"
          refine ⟨_, rfl, by omega, by omega, fun t σ H' => ∃ (v : Option V) (cs : List Int), σ = [some (.ref b), some (.ref w), some (.int kd), some (.ref E4), v, none] ∧ Kp [b] H H' ∧ Box H' b r ∧ H' E4 = some (.lst (cs.map V.int)) ∧ cs.length ≤ t ∧ ∀ x ∈ cs, InB x, ⟨_, [], rfl, kH5, bx5, hE5, Nat.le_refl _, fun _ m => nomatch m⟩, ?_, ?_⟩
          · rintro t σ' H6 ht ⟨v, cs, rfl, k6, bx6, hE6, l6, p6⟩
            have W6 := W.draw bx k6
            have hw6 := W6.wa.hw
            have h16 := W6.wa.h1
            have hm6 := W6.wa.hm
            have hid6 : Kp [b] H H6 ∧ True := ⟨k6, trivial⟩
            clear k6 W5 bx5 hE5 kH5 W
            wtm_at "w"
            rw [List.length_map]
            refine ite_d (fun cl => ?_) (fun cl => ?_)
            · wtm_at "w"
              rw [List.length_map]
              refine ⟨b, r, _, rfl, bx6, by omega, fun y H8 y0 y1 k8 bx8 => ?_⟩
              have W8 := W6.wa.draw bx6 k8
              have h18 := W8.h1
              have hm8 := W8.hm
              have hE8 := k8.at1 nlE.1.symm hE6
              have k08 := hid6.1.tr1 k8 (.inl (by simp))
              obtain ⟨t8, tm, ht8⟩ := pickR y0 y1
              obtain ⟨g1, g2, g3⟩ := W8.it t8 tm
              have gl := g3.len
              clear k8
              refine vx_lst (Z.SqL.of' h18) ht8 ?_
              wtm_at "w"
              refine ⟨m, t8.1, n, f, t8.2.2.1, rfl, hm8, Z.SqT.of' g1, hn, by omega, fun H9 k9 => ?_⟩
              wtm_at "w"
              refine ⟨k9.at0 hE8, szl (by rw [List.length_map]; omega), fun H10 k10 h10 => ?_⟩
              wtm_at "w"
              refine ⟨_, cs ++ [dig n f t8.2.2.1], rfl, (k08.tr0 k9).tr1 k10 (.inr nE0), (bx8.kp k9).kp1 k10 nlE, by rw [h10, List.map_append]; rfl, by simp; omega, fun x mx => ?_⟩
              rcases List.mem_append.mp mx with z | z
              · exact p6 x z
              · rw [List.mem_singleton.mp z]; exact dB _
            · wtm_at "w"
              exact ⟨_, cs, rfl, hid6.1, bx6, hE6, by omega, p6⟩
          · rintro σ' H6 ⟨v, cs, rfl, k6, bx6, hE6, l6, p6⟩
            clear W5 bx5 hE5 kH5
            have hid6 : Kp [b] H H6 ∧ True := ⟨k6, trivial⟩
            clear k6
            refine xb_cons ?_
            refine xs_setLc C (by wtm_at "m") (by decide +kernel) rfl (by decide +kernel) ?_
            refine xlc_R1 (Vs' := ["box", "k"]) (G' := ["_law_number"]) (nm := "k") (i := 4) (by assumption) ⟨rfl, by decide +kernel, by decide +kernel, rfl, by decide +kernel, by decide⟩ (by wtm_at "m") T.b_range ?_
            wtm_at "w"
            refine ⟨b, r, 3, rfl, bx6, by decide, fun dd H7 d0 d1 k7 bx7 => ?_⟩
            have hE7 := k7.at1 nlE.1.symm hE6
            have kH7 := hid6.1.tr1 k7 (.inl (by simp))
            clear k7 hid6 hE6 bx6
            wtm_at "w"
            refine ⟨_, rfl, by omega, by omega, fun B H8 k8 nB eB => ?_⟩
            have nEB : E4 ≠ B := ne_of_none hE7 nB
            refine ⟨fun t H' => LcI InB H8 b r B t H', .start bx7 k8 nB eB, ?_, ?_⟩
            · rintro t H9 ht I9
              refine ⟨_, by wtm_at "u", ?_⟩
              intro s0 H0 c' cl fp C'
              wtm_at "w"
              refine ⟨b, r, rfl, I9.2.2.1, fun x H10 x0 x1 k10 b10 => ?_⟩
              obtain ⟨acc, a1, a2, nt, rfl, a3, a4, a5⟩ := I9.sz (by omega) k10
              exact ⟨_, a1, a2, fun H11 k11 e11 => I9.push a4 a5 k10 b10 ⟨x0, x1⟩ k11 e11⟩
            · rintro H9 I9
              have kk := I9.kp k8 nB
              obtain ⟨_, _, b9, bs, hb9, lb, pb⟩ := I9
              have hE9 := kk.at1 nlE.1.symm hE7
              have kH9 := kH7.tr kk (fun l z => .inl z)
              clear kk k8 kH7 hE7 bx7
              wtm_at "w"
              intro tp H10 k10 _ htp
              have htp' : H10 tp = some (.tup (([2, (cs.length : Int)] : List Int).map V.int)) := by
                rw [List.length_map] at htp; exact htp
              have hE10 := k10.at0 hE9
              have hb10 := k10.at0 hb9
              have b10 := b9.kp k10
              have kH10 := kH9.tr0 k10
              clear htp k10 kH9 hE9 hb9 b9
              wtm_at "w"
              refine vo_catL hE10 hb10 (sz_ (by simp; omega)) (fun lc1 H11 k11 n11 h11 => ?_)
              rw [← List.map_append] at h11
              wtm_at "w"
              refine vc_tupLP (Z.SqL.of' h11) (fun tc H12 k12 htc => ?_)
              refine vo_catP (k12.at0 (k11.at0 htp')) htc (sz_ (by simp; omega)) (fun t1 H13 k13 h1 => ?_)
              rw [← List.map_append] at h1
              have k1013 := (k11.tr0 k12).tr0 k13
              have b13 := b10.kp k1013
              have kH13 := kH10.tr0 k1013
              clear k11 k12 k13 k1013 kH10 b10 hE10 hb10 htp' htc h11
              wtm_at "w"
              intro e H14 k14 ne he
              wtm_at "w"
              intro pr H15 k15 npr hpr
              exact fin pr t1 e (rowD cs bs) H15 ((kH13.tr0 k14).tr0 k15) ((b13.kp k14).kp k15) ((kH13.tr0 k14).n _ npr) (kH13.n _ ne) hpr (k15.at0 (k14.at0 h1)) (k15.at0 he) (.doc cs bs (by omega) (by omega) p6 pb)
end
/-! _law_small -/
section
local macro_rules | `(tactic| wtm_at "d") => `(tactic| first | ((with_reducible show Z.XE _ (PySem.Expr.Call (PySem.Expr.Name "_law_draw" _) (_ :: _) [] _) _ _ _); refine Z.xe_call (by assumption) (Law.ok__law_draw T) (by wtm_at "m") (by omega) ?_) | fail)
/-! a world of a small bound: its mixing set anew -/
def sp_small (K : PySem.W.Frag) : Sp := fun vs H Q _ => ∃ (b r w m a1 a2 a3 : Addr) (n f : Int), vs = [.ref b, .ref w] ∧ Box H b r ∧ H w = some (.lst [.ref m, .ref a1, .ref a2, .ref a3]) ∧ SqT K H m [.int n, .int f] ∧ 2 ≤ n ∧ n ≤ 2 ^ 64 ∧
  ∀ (m' : Addr) (n' : Int) H', Kp [b, w] H H' → Box H' b r → H' w = some (.lst [.ref m', .ref a1, .ref a2, .ref a3]) → SqT K H' m' [.int n', .int f] → 2 ≤ n' → n' ≤ 2 ^ 64 → Q (.ref w) H'
theorem ok__law_small (T : Txt P w K mg base) : DefOk P w K mg base "_law_small" ["box", "world"] 2 (sp_small K) := by
  refine DefOk.by T.d__law_small sc__law_small oc__law_small (fun vs H Q E h => ?_) (fun X e1 e2 e3 e4 e5 C H vs Q E h => ?_)
  · obtain ⟨b, r, w, m, a1, a2, a3, n, f, rfl, _⟩ := h; rfl
  · obtain ⟨b, r, w, m, a1, a2, a3, n, f, rfl, bx, hw, hm, n2, n64, q⟩ := h
    wtm_at "go"
    wtm_at "w"
    refine ⟨b, r, 4, rfl, bx, by decide, fun v H1 v0 v1 k1 bx1 => ?_⟩
    have hw1 := k1.at1 (bx.neLst hw (by simp)) hw
    have hm1 := k1.tup hm
    have hid1 : Kp [b] H H1 ∧ True := ⟨k1, trivial⟩
    clear k1
    wtm_at "w"
    refine ite_d (fun _ => ?_) (fun _ => ?_)
    · wtm_at "w"
      refine xs_setIx ?_
      wtm_at "w"
      refine ⟨b, r, 30, rfl, bx1, by decide, fun u H2 u0 u1 k2 bx2 => ?_⟩
      have hw2 := k2.at1 (bx1.neLst hw1 (by simp)) hw1
      have hm2 := k2.tup hm1
      have hid2 : Kp [b] H H2 ∧ True := ⟨hid1.1.tr1 k2 (.inl (by simp)), trivial⟩
      clear k2 hm1 hw1
      wtm_at "w"
      intro p H3 k3 np hp
      have hw3 := k3.at0 hw2
      have bx3 := bx2.kp k3
      have hid3 : Kp [b] H H3 ∧ True := ⟨hid2.1.tr0 k3, trivial⟩
      clear k3 hm2 hw2
      wtm_at "w"
      refine ⟨w, _, 0, 0, rfl, rfl, hw3, by show ixN 4 0 = some 0; decide, fun H4 k4 e4 => ?_⟩
      have e4 : H4 w = some (.lst [.ref p, .ref a1, .ref a2, .ref a3]) := e4
      have wb := bx3.neLst hw3 (by simp)
      have wr : r ≠ w := by
        obtain ⟨i, ns, g1, g2, g3⟩ := bx3
        intro e
        rw [e, hw3] at g3
        cases ns with
        | nil => exact nomatch HO.lst.inj (Option.some.inj g3)
        | cons x l => exact nomatch (List.cons.inj (HO.lst.inj (Option.some.inj g3))).1
      have bx4 := bx3.kp1 k4 ⟨wb.symm, wr⟩
      have hp4 := k4.t _ _ hp
      wtm_at "w"
      exact q p (2 + u) H4 ((hid3.1.wk (fun l ml => by rw [List.mem_singleton.mp ml]; simp)).tr1 k4 (.inl (by simp))) bx4 e4 (Z.SqT.of' hp4) (by omega) (by omega)
    · wtm_at "w"
      exact q m n H1 (hid1.1.wk (fun l ml => by rw [List.mem_singleton.mp ml]; simp)) bx1 hw1 hm1 n2 n64
end
/-! _law_made_world -/
section
local macro_rules | `(tactic| wtm_at "d") => `(tactic| first | ((with_reducible show Z.XE _ (PySem.Expr.Call (PySem.Expr.Name "_law_mixing" _) (_ :: _) [] _) _ _ _); refine Z.xe_call (by assumption) (Law.ok__law_mixing T) (by wtm_at "m") (by omega) ?_) | ((with_reducible show Z.XE _ (PySem.Expr.Call (PySem.Expr.Name "_law_new_thing" _) (_ :: _) [] _) _ _ _); refine Z.xe_call (by assumption) (Law.ok__law_new_thing T) (by wtm_at "m") (by omega) ?_) | ((with_reducible show Z.XE _ (PySem.Expr.Call (PySem.Expr.Name "_law_small" _) (_ :: _) [] _) _ _ _); refine Z.xe_call (by assumption) (Law.ok__law_small T) (by wtm_at "m") (by omega) ?_) | fail)
theorem kvsW_app (its : List It4) (t : It4) : kvsW (its ++ [t]) = kvsW its ++ [(keyOf t.2.2.1, .ref t.2.1)] := by unfold kvsW; rw [List.map_append]; rfl
theorem WBd.add {K : PySem.W.Frag} {H H1 H2 : Hp} {w m l1 d l3 s0 s1 s2 r a e : Addr} {n f : Int} {its : List It4} {c : Nat} {row es : List Int} (h : WBd K H w m l1 d l3 s0 s1 s2 r n f its c) (k1 : Kp [l1] H H1) (h1 : H1 l1 = some (.lst ((its ++ [(a, e, row, es)]).map fun t => .ref t.1))) (k2 : Kp [d] H1 H2) (h2 : H2 d = some (.dT (kvsW (its ++ [(a, e, row, es)])))) (ha : H a = some (.tup (row.map V.int))) (he : H e = some (.lst (es.map V.int))) (wt : Wt n f row es) (no : lkI its row = none) (ne : e ∉ [l1, s0, s1, s2]) : WBd K H2 w m l1 d l3 s0 s1 s2 r n f (its ++ [(a, e, row, es)]) c := by
  obtain ⟨n1, n2, n3, n4, n5, n6⟩ := h.nd
  have hd1 := k1.at1 (ne_of h.wa.hd h.wa.h1 (by intro z; cases z)) h.wa.hd
  have ls : ∀ {p zs}, p ∉ [l1, s0, s1, s2] → H p = some (.lst zs) → H2 p = some (.lst zs) := fun hp e => k2.at1 (fun z => by
    have := k1.at1 (fun z => hp (by rw [z]; simp)) e
    rw [z, hd1] at this; cases this) (k1.at1 (fun z => hp (by rw [z]; simp)) e)
  have tp : ∀ {p zs}, H p = some (.tup zs) → H2 p = some (.tup zs) := fun e => k2.t _ _ (k1.t _ _ e)
  have ld : l1 ≠ d := ne_of h1 hd1 (by intro z; cases z)
  refine ⟨⟨ls n1 h.wa.hw, k2.tup (k1.tup h.wa.hm), k2.at1 ld h1, h2, fun t mt => ?_, fun t mt => ?_⟩, ls n2 h.h3, fun j mj => ?_, fun t mt => ?_, h.nr, h.nd⟩
  · rcases List.mem_append.mp mt with z | z
    · obtain ⟨g1, g2, g3⟩ := h.wa.it t z
      exact ⟨tp g1, ls (h.ap t z) g2, g3⟩
    · rw [List.mem_singleton.mp z]; exact ⟨tp ha, ls ne he, wt⟩
  · rw [lkI_app no]
    rcases List.mem_append.mp mt with z | z
    · have := h.wa.ds t z
      rw [if_neg (fun z => by rw [← z] at this; exact absurd (no.symm.trans this) (by simp))]
      exact this
    · rw [List.mem_singleton.mp z]
      simp
  · obtain ⟨mm, f1, f2, f3⟩ := h.hs j mj
    have jl : j ≠ l1 := fun z => n3 (by rw [← z]; exact mj)
    refine ⟨mm, k2.at1 (fun z => ?_) (k1.at1 jl f1), f2, fun x mx => ⟨k2.tup (k1.tup (f3 x mx).1), (f3 x mx).2⟩⟩
    have := k1.at1 jl f1
    rw [z, hd1] at this; cases this
  · rcases List.mem_append.mp mt with z | z
    · exact h.ap t z
    · rw [List.mem_singleton.mp z]; exact ne
theorem WAt.sub {K : PySem.W.Frag} {H : Hp} {w m l1 d l3 : Addr} {n f : Int} {its : List It4} (h : WAt K H w m l1 d l3 n f its) : True := trivial
def sp_made (K : PySem.W.Frag) : Sp := fun vs H Q _ => ∃ (b r : Addr) (k : Nat), vs = [.ref b, .int k] ∧ Box H b r ∧ 1 ≤ k ∧ k ≤ 50 ∧
  ∀ (w m l1 d l3 : Addr) (n f : Int) (its : List It4) H', Kp [b] H H' → Box H' b r → WAt K H' w m l1 d l3 n f its → 2 ≤ n → n ≤ 2 ^ 64 → 2 ≤ f → f < PR → 1 ≤ its.length → its.length ≤ k → H w = none → Q (.ref w) H'
theorem ok__law_made_world (T : Txt P w K mg base) : DefOk P w K mg base "_law_made_world" ["box", "many"] 16 (sp_made K) := by
  refine DefOk.by T.d__law_made_world sc__law_made_world oc__law_made_world (fun vs H Q E h => ?_) (fun X e1 e2 e3 e4 e5 C H vs Q E h => ?_)
  · obtain ⟨b, r, k, rfl, _⟩ := h; rfl
  · obtain ⟨b, r, k, rfl, bx, k1, k2, q⟩ := h
    wtm_at "go"
    wtm_at "w"
    refine ⟨b, r, rfl, bx, fun m n f H1 n2 n64 f2 fP kk1 bx1 hm => ?_⟩
    have hid1 : Kp [b] H H1 ∧ True := ⟨kk1, trivial⟩
    clear kk1
    wtm_at "w"
    intro l1 H2 kk2 nl1 hl1
    have bx2 := bx1.kp kk2
    have hm2 := kk2.tup hm
    have hid2 : Kp [b] H H2 ∧ True := ⟨hid1.1.tr0 kk2, trivial⟩
    have r1 := bx1.nl nl1
    have nl1' := hid1.1.n _ nl1
    clear kk2 hm bx1 hid1
    wtm_at "w"
    refine xe_dnewT (fun d H3 kk3 nd hd => ?_)
    have bx3 := bx2.kp kk3
    have hm3 := kk3.tup hm2
    have hl13 := kk3.at0 hl1
    have hid3 : Kp [b] H H3 ∧ True := ⟨hid2.1.tr0 kk3, trivial⟩
    have nd' := hid2.1.n _ nd
    clear kk3 hm2 bx2 hid2 hl1
    wtm_at "w"
    intro s0 H4 kk4 ns0 hs0
    have c1 := ne_of_none hl13 ns0
    have r2 := bx3.nl ns0
    have ns0' := hid3.1.n _ ns0
    have hid4 : Kp [b] H H4 ∧ True := ⟨hid3.1.tr0 kk4, trivial⟩
    have kA : Kp [] H3 H4 ∧ True := ⟨kk4, trivial⟩
    clear kk4
    wtm_at "w"
    intro s1 H5 kk5 ns1 hs1
    have c2 := ne_of_none (kA.1.at0 hl13) ns1
    have c3 := ne_of_none hs0 ns1
    have r3 := (bx3.kp kA.1).nl ns1
    have ns1' := hid4.1.n _ ns1
    have hid5 : Kp [b] H H5 ∧ True := ⟨hid4.1.tr0 kk5, trivial⟩
    have kB : Kp [] H3 H5 ∧ True := ⟨kA.1.tr0 kk5, trivial⟩
    have hs05 := kk5.at0 hs0
    clear kk5
    wtm_at "w"
    intro s2 H6 kk6 ns2 hs2
    have c4 := ne_of_none (kB.1.at0 hl13) ns2
    have c5 := ne_of_none hs05 ns2
    have c6 := ne_of_none hs1 ns2
    have r4 := (bx3.kp kB.1).nl ns2
    have ns2' := hid5.1.n _ ns2
    have hid6 : Kp [b] H H6 ∧ True := ⟨hid5.1.tr0 kk6, trivial⟩
    have kC : Kp [] H3 H6 ∧ True := ⟨kB.1.tr0 kk6, trivial⟩
    have hs06 := kk6.at0 hs05
    have hs16 := kk6.at0 hs1
    clear kk6 hs05 hs1 hs0
    wtm_at "w"
    intro l3 H7 kk7 nl3 hl3
    have c7 := ne_of_none (kC.1.at0 hl13) nl3
    have c8 := ne_of_none hs06 nl3
    have c9 := ne_of_none hs16 nl3
    have c10 := ne_of_none hs2 nl3
    have hid7 : Kp [b] H H7 ∧ True := ⟨hid6.1.tr0 kk7, trivial⟩
    have kD : Kp [] H3 H7 ∧ True := ⟨kC.1.tr0 kk7, trivial⟩
    have hs07 := kk7.at0 hs06
    have hs17 := kk7.at0 hs16
    have hs27 := kk7.at0 hs2
    clear kk7 hs06 hs16 hs2
    wtm_at "w"
    intro w0 H8 kk8 nw hw
    have c11 := ne_of_none (kD.1.at0 hl13) nw
    have c12 := ne_of_none hs07 nw
    have c13 := ne_of_none hs17 nw
    have c14 := ne_of_none hs27 nw
    have nw' := hid7.1.n _ nw
    have kE : Kp [] H3 H8 ∧ True := ⟨kD.1.tr0 kk8, trivial⟩
    have bx8 := bx3.kp kE.1
    have c15 := ne_of_none hl3 nw
    have hm8 := kE.1.tup hm3
    have hl18 := kE.1.at0 hl13
    have hd8 := kE.1.at0 hd
    have hl38 := kk8.at0 hl3
    have hs08 := kk8.at0 hs07
    have hs18 := kk8.at0 hs17
    have hs28 := kk8.at0 hs27
    have k08 : Kp [b] H H8 := hid7.1.tr0 kk8
    have hid8 : Kp [b] H H8 ∧ True := ⟨k08, trivial⟩
    clear k08 kk8 kE kD kC kB kA hid7 hid6 hid5 hid4 hid3 hs07 hs17 hs27 hl3 hm3 hl13 hd bx3
    wtm_at "w"
    refine ⟨b, r, w0, m, l1, d, l3, n, f, rfl, bx8, hw, hm8, n2, n64, fun m' n' H9 k9 bxA hw9 hm9 n2' n64' => ?_⟩
    have ob : ∀ {q o}, H8 q = some o → q ≠ b → q ≠ w0 → H9 q = some o := fun {q o} e n1 n2 => k9.at (fun z => by
      simp only [List.mem_cons, List.not_mem_nil, or_false] at z
      exact z.elim n1 n2) e
    have WA : WBd X.K H9 w0 m' l1 d l3 s0 s1 s2 r n' f [] 0 := by
      refine ⟨⟨hw9, hm9, ob hl18 (bx8.neLst hl18 (by simp)) c11, ob hd8 (bx8.neDT hd8) (ne_of hd8 hw (by intro z; cases z)), (fun t mt => nomatch mt), (fun t mt => nomatch mt)⟩, ob hl38 (bx8.neLst hl38 (by simp)) c15, fun j mj => ?_, (fun t mt => nomatch mt), ?_, ?_⟩
      · have e : H9 j = some (.lst []) := by
          simp only [List.mem_cons, List.not_mem_nil, or_false] at mj
          rcases mj with rfl | rfl | rfl
          · exact ob hs08 (bx8.neLst hs08 (by simp)) c12
          · exact ob hs18 (bx8.neLst hs18 (by simp)) c13
          · exact ob hs28 (bx8.neLst hs28 (by simp)) c14
        exact ⟨[], e, Nat.le_refl _, (fun x mx => nomatch mx)⟩
      · simp only [List.mem_cons, List.not_mem_nil, or_false, not_or]
        exact ⟨r1.2, r2.2, r3.2, r4.2⟩
      · simp only [List.mem_cons, List.not_mem_nil, or_false, not_or]
        exact ⟨⟨Ne.symm c11, Ne.symm c12, Ne.symm c13, Ne.symm c14⟩, ⟨Ne.symm c7, Ne.symm c8, Ne.symm c9, Ne.symm c10⟩, ⟨c1, c2, c4⟩, c3, c5, c6⟩
    have hidA : Kp [b] H H9 ∧ True := ⟨hid8.1.tr k9 (fun l ml => by
      simp only [List.mem_cons, List.not_mem_nil, or_false] at ml
      exact ml.imp (fun z => by rw [z]; simp) (fun z => by rw [z]; exact nw')), trivial⟩
    clear k9 hid8 hw hm8 hl18 hd8 hl38 hs08 hs18 hs28 bx8 ob hw9 hm9
    wtm_at "w"
    refine xs_forR1 (by assumption) (by wtm_at "m") T.b_range ?_
    wtm_at "w"
    have fresh : ∀ l ∈ [b, s0, s1, s2], l = b ∨ H l = none := by
      intro l ml
      simp only [List.mem_cons, List.not_mem_nil, or_false] at ml
      rcases ml with rfl | rfl | rfl | rfl
      · exact .inl rfl
      · exact .inr ns0'
      · exact .inr ns1'
      · exact .inr ns2'
    refine ⟨_, rfl, by omega, by omega, fun t σ H' => ∃ (v1 v2 : Option V) (its : List It4), σ = [some (.ref b), some (.int (k : Int)), some (.ref w0), v1, v2] ∧ Kp [b] H H' ∧ Box H' b r ∧ WBd X.K H' w0 m' l1 d l3 s0 s1 s2 r n' f its t ∧ its.length ≤ t ∧ (1 ≤ t → 1 ≤ its.length), ⟨_, _, [], rfl, hidA.1, bxA, WA, Nat.le_refl _, fun z => by omega⟩, ?_, ?_⟩
    · rintro t σ' H9 ht ⟨v1, v2, its, rfl, k9, bx9, W9, li, l1i⟩
      have hid9 : Kp [b] H H9 ∧ True := ⟨k9, trivial⟩
      clear k9 WA bxA hidA
      wtm_at "w"
      refine ⟨b, r, w0, m', l1, d, l3, s0, s1, s2, n', f, its, t, rfl, bx9, W9, by omega, by omega, by omega, n64', fun q' a e row es H10 k10 bx10 W10 nq ne hq ha he wt => ?_⟩
      have k010 : Kp [b] H H10 := hid9.1.tr k10 (fun l ml => (fresh l ml).imp (fun z => by rw [z]; simp) id)
      have hw10 := W10.wa.hw
      have hd10 := W10.wa.hd
      have h110 := W10.wa.h1
      have nef : e ∉ [l1, s0, s1, s2] := fun me => by
        simp only [List.mem_cons, List.not_mem_nil, or_false] at me
        rcases me with rfl | rfl | rfl | rfl
        · rw [W9.wa.h1] at ne; cases ne
        · obtain ⟨_, z, _⟩ := W9.hs e (by simp); rw [z] at ne; cases ne
        · obtain ⟨_, z, _⟩ := W9.hs e (by simp); rw [z] at ne; cases ne
        · obtain ⟨_, z, _⟩ := W9.hs e (by simp); rw [z] at ne; cases ne
      have hq2 : q' ∉ [l1, s0, s1, s2] := fun me => by
        simp only [List.mem_cons, List.not_mem_nil, or_false] at me
        rcases me with rfl | rfl | rfl | rfl
        · rw [W9.wa.h1] at nq; cases nq
        · obtain ⟨_, z, _⟩ := W9.hs q' (by simp); rw [z] at nq; cases nq
        · obtain ⟨_, z, _⟩ := W9.hs q' (by simp); rw [z] at nq; cases nq
        · obtain ⟨_, z, _⟩ := W9.hs q' (by simp); rw [z] at nq; cases nq
      clear k10 hid9 W9 bx9
      wtm_at "w"
      refine vo_notInD C (.inr ⟨_, keyOf row, a, .inl hd10, rfl, by rw [keyOf_kV]; exact ha, rfl⟩) ?_
      rw [valV_kvsW]
      cases hk : lkI its row with
      | some t0 =>
        obtain ⟨t0m, _⟩ := lkI_mem hk
        have : its.length ≠ 0 := fun z => by rw [List.length_eq_zero_iff.mp z] at t0m; cases t0m
        refine ex_bl ?_
        refine L2.iteF ?_
        wtm_at "w"
        exact ⟨_, _, its, rfl, k010, bx10, W10, by omega, fun _ => by omega⟩
      | none =>
        refine ex_bl ?_
        refine L2.iteT ?_
        wtm_at "w"
        refine ⟨h110, szl (by rw [List.length_map]; omega), fun H11 k11 h11 => ?_⟩
        have hd11 := k11.at1 (ne_of hd10 h110 (by intro z; cases z)) hd10
        have hw11 := k11.at1 (fun z => W10.nd.1 (by rw [z]; simp)) hw10
        have hq11 := k11.at1 (fun z => hq2 (by rw [z]; simp)) hq
        have ha11 := k11.t _ _ ha
        refine xb_cons ?_
        refine xs_dputT C ?_
        wtm_at "w"
        refine ⟨d, a, kvsW its, keyOf row, rfl, rfl, hd11, by rw [keyOf_kV]; exact ha11, szl (by unfold kvsW; rw [List.length_map]; omega), fun H12 k12 h12 => ?_⟩
        rw [putK_new _ (by rw [valV_kvsW, hk]; rfl)] at h12
        have W12 := W10.add (a := a) (e := e) (row := row) (es := es) k11 (by rw [h11, List.map_append]; rfl) k12 (by rw [h12, kvsW_app]) ha he wt hk nef
        have k012 : Kp [b] H H12 := (k010.tr1 k11 (.inr nl1')).tr1 k12 (.inr nd')
        have bx12 : Box H12 b r := by
          have b11 := bx10.kp1 k11 ⟨bx10.neRef2 h110 |>.symm, fun z => W10.nr (by rw [z]; simp)⟩
          obtain ⟨i, ns, g1, g2, g3⟩ := b11
          exact ⟨i, ns, k12.at1 (ne_of g1 hd11 (by intro z; cases z)) g1, g2, k12.at1 (ne_of g3 hd11 (by intro z; cases z)) g3⟩
        wtm_at "w"
        exact ⟨_, _, _, rfl, k012, bx12, W12.mono (by omega), by simp; omega, fun _ => by simp⟩
    · rintro σ' H9 ⟨v1, v2, its, rfl, k9, bx9, W9, li, l1i⟩
      wtm_at "w"
      exact q w0 m' l1 d l3 n' f its H9 k9 bx9 W9.wa n2' n64' f2 fP (l1i (by omega)) (by omega) nw'
end
/-! lcd -/
/-- data listed one after another into the new list at L -/
def LcD (K : PySem.W.Frag) (H0 : Hp) (L : Addr) (ds : List PyData) (t : Nat) (H' : Hp) : Prop := Kp [] H0 H' ∧ ∃ us, H' L = some (.lst us) ∧ DpAll K H' us (ds.take t)
theorem LcD.start {K : PySem.W.Frag} {H0 H1 : Hp} {L : Addr} {ds : List PyData} (k : Kp [] H0 H1) (h : H1 L = some (.lst [])) : LcD K H0 L ds 0 H1 := ⟨k, [], h, .nil⟩
theorem LcD.fin {K : PySem.W.Frag} {H0 H3 H4 : Hp} {L : Addr} {ds : List PyData} {t : Nat} {d : PyData} {z : V} (I : LcD K H0 L ds t H3) (nL : H0 L = none) (k : Kp [] H3 H4) (hn : noLs ds = true) (hd : ds[t]? = some d) (hz : Dp K H4 z d) (ht : t < 100000) :
    ∃ acc, H4 L = some (.lst acc) ∧ acc.length < sizeLine ∧ ∀ H5, Kp [L] H4 H5 → H5 L = some (.lst (acc ++ [z])) → LcD K H0 L ds (t + 1) H5 := by
  obtain ⟨k0, us, hL, hu⟩ := I
  have lu := dpAll_len hu
  rw [List.length_take] at lu
  refine ⟨us, k.at0 hL, szl (by omega), fun H5 k5 h5 => ⟨(k0.tr0 k).tr1 k5 (.inr nL), _, h5, ?_⟩⟩
  rw [List.take_add_one, hd]
  refine dpAll_app (dpAll_kpT k5 (noLs_take _ hn) (dpAll_kp k hu)) (.cons (dp_kpT k5 ?_ hz) .nil)
  clear hu lu hz
  induction ds generalizing t with
  | nil => simp at hd
  | cons x r ih =>
    simp only [noLs, Bool.and_eq_true] at hn
    cases t with
    | zero =>
      have : x = d := by simpa using hd
      rw [← this]; exact hn.1
    | succ t => exact ih hn.2 (by simpa using hd) (by omega)
/-! placesP -/
/-! a world's places -/
theorem at_getDi {js : List Int} {i : Int} {j : Nat} (e : i = (j : Int)) (h : j < js.length) : atI (js.map V.int) i = some (.int (js.getD j 0)) := by
  subst e; exact at_getD j h
theorem getD_drop {rs : List Int} {a i : Nat} : (rs.drop a).getD i 0 = rs.getD (a + i) 0 := by
  rw [List.getD_eq_getElem?_getD, List.getElem?_drop, List.getD_eq_getElem?_getD]
theorem getD_takeL {rs : List Int} {a i : Nat} (h : i < a) : (rs.take a).getD i 0 = rs.getD i 0 := by
  rw [List.getD_eq_getElem?_getD, List.getElem?_take, if_pos h, List.getD_eq_getElem?_getD]
theorem heldO_by {rs ls : List Int} {p : Pl} (e1 : ¬ p.w = ("entry" : Str)) (hL : listN rs p.w = ls) : heldO rs p = if 0 ≤ p.i ∧ p.i < (ls.length : Int) then some (ls.getD p.i.toNat 0) else none := by
  have hP : hasPl rs p = decide (0 ≤ p.i ∧ p.i < (ls.length : Int)) := by unfold hasPl; rw [if_neg e1, hL]
  unfold heldO
  rw [hP, hL]
  by_cases h : 0 ≤ p.i ∧ p.i < (ls.length : Int)
  · rw [if_pos h, if_neg]
    rintro (z | z)
    · exact e1 z
    · exact of_decide_eq_false z h
  · rw [if_neg h, if_pos (.inr (decide_eq_false h))]
theorem heldO_cite {rs : List Int} {p : Pl} (th : isThing rs = true) (ro : RowOk rs) (hw : p.w = ("cite" : Str)) : heldO rs p = if rs.getD 0 0 = 2 ∧ 0 ≤ p.i ∧ p.i < rs.getD 1 0 then some (rs.getD (2 + p.i.toNat) 0) else none := by
  have e1 : ¬ p.w = ("entry" : Str) := by rw [hw]; decide +kernel
  have e2 : ¬ ("cite" : Str) = ("back" : Str) := by decide +kernel
  have r1 := ro.one
  by_cases h2 : rs.getD 0 0 = 2
  · obtain ⟨l2, l3⟩ := isThing_doc th h2
    have hL : listN rs p.w = (rs.drop 2).take (rs.getD 1 0).toNat := by unfold listN; rw [if_pos ⟨hw, h2⟩]
    have ll : ((rs.drop 2).take (rs.getD 1 0).toNat).length = (rs.getD 1 0).toNat := by rw [List.length_take, List.length_drop]; omega
    rw [heldO_by e1 hL, ll]
    by_cases h3 : 0 ≤ p.i ∧ p.i < rs.getD 1 0
    · rw [if_pos ⟨h3.1, by omega⟩, if_pos ⟨h2, h3⟩, getD_takeL (by omega), getD_drop]
    · rw [if_neg (fun z => h3 ⟨z.1, by omega⟩), if_neg (fun z => h3 z.2)]
  · have hL : listN rs p.w = [] := by unfold listN; rw [if_neg (fun z => h2 z.2), if_neg (fun z => e2 (hw.symm.trans z.1))]
    rw [heldO_by e1 hL, if_neg (fun z => by have := z.2; simp at this; omega), if_neg (fun z => h2 z.1)]
theorem heldO_back {rs : List Int} {p : Pl} (th : isThing rs = true) (hw : p.w = ("back" : Str)) : heldO rs p = if rs.getD 0 0 = 4 ∧ 0 ≤ p.i ∧ p.i < (rs.length : Int) - 6 then some (rs.getD (6 + p.i.toNat) 0) else none := by
  have e1 : ¬ p.w = ("entry" : Str) := by rw [hw]; decide +kernel
  have e2 : ¬ p.w = ("cite" : Str) := by rw [hw]; decide +kernel
  by_cases h4 : rs.getD 0 0 = 4
  · obtain ⟨l6, _⟩ := isThing_hd th h4
    have hL : listN rs p.w = rs.drop 6 := by unfold listN; rw [if_neg (fun z => e2 z.1), if_pos ⟨hw, h4⟩]
    rw [heldO_by e1 hL, List.length_drop]
    by_cases h3 : 0 ≤ p.i ∧ p.i < (rs.length : Int) - 6
    · rw [if_pos ⟨h3.1, by omega⟩, if_pos ⟨h4, h3⟩, getD_drop]
    · rw [if_neg (fun z => h3 ⟨z.1, by omega⟩), if_neg (fun z => h3 z.2)]
  · have hL : listN rs p.w = [] := by unfold listN; rw [if_neg (fun z => e2 z.1), if_neg (fun z => h4 z.2)]
    rw [heldO_by e1 hL, if_neg (fun z => by have := z.2; simp at this; omega), if_neg (fun z => h4 z.1)]
def plpD (x : Pl × Int) : PyData := .tuple [plD x.1, .int x.2]
theorem noL_pl (p : Pl) : noL (plD p) = true := by
  unfold plD
  by_cases e : p.w = ("entry" : Str)
  · rw [if_pos e]; simp [noL, noLs, noLs_ints]
  · rw [if_neg e]; simp [noL, noLs]
theorem noLs_plp : ∀ xs : List (Pl × Int), noLs (xs.map plpD) = true
  | [] => rfl
  | x :: r => by simp [noLs, noL, plpD, noL_pl, noLs_plp r]
def citesN (row : List Int) : List (Pl × Int) := (List.range (row.getD 1 0).toNat).map fun (k : Nat) => (⟨"cite", (k : Int), []⟩, row.getD (2 + k) 0)
def backsN (row : List Int) : List (Pl × Int) := (List.range (row.length - 6)).map fun (k : Nat) => (⟨"back", (k : Int), []⟩, row.getD (6 + k) 0)
def entsN (n f : Int) (es : List Int) : List (Pl × Int) := (List.range es.length).map fun (k : Nat) => (⟨"entry", (k : Int), wy n f es k⟩, es.getD k 0)
def placesN (n f : Int) (row es : List Int) : List (Pl × Int) := if row.getD 0 0 = 2 then citesN row else if row.getD 0 0 = 4 then backsN row ++ entsN n f es else []
theorem plD_two {w : Str} {i : Int} {x : List Int} (h : ¬ w = ("entry" : Str)) : plD ⟨w, i, x⟩ = .tuple [.str w, .int i] := by
  unfold plD; rw [if_neg h]
theorem plD_three {i : Int} {x : List Int} : plD ⟨"entry", i, x⟩ = .tuple [.str "entry", .int i, .tuple (x.map PyData.int)] := by
  unfold plD; rw [if_pos rfl]
/-! places -/
section
local macro_rules | `(tactic| wtm_at "d") => `(tactic| first | ((with_reducible show Z.XE _ (PySem.Expr.Call (PySem.Expr.Name "len" _) (_ :: _) [] _) _ _ _); refine Z.xe_callB (id := "len") (by assumption) (by wtm_at "m") T.b_len (by decide +kernel) ?_) | ((with_reducible show Z.XE _ (PySem.Expr.Call (PySem.Expr.Name "_law_way" _) (_ :: _) [] _) _ _ _); refine Z.xe_call (by assumption) (Law.ok__law_way T) (by wtm_at "m") (by omega) ?_) | fail)
def sp_lplaces (K : PySem.W.Frag) : Sp := fun vs H Q _ => ∃ (m a e : Addr) (n f : Int) (row es : List Int), vs = [.ref m, .ref a, .ref e] ∧ SqT K H m [.int n, .int f] ∧ SqT K H a (row.map V.int) ∧ H e = some (.lst (es.map V.int)) ∧ Wt n f row es ∧ 0 < n ∧
  ∀ p us H', Kp [] H H' → H p = none → H' p = some (.lst us) → DpAll K H' us ((placesN n f row es).map plpD) → Q (.ref p) H'
theorem ok__law_places (T : Txt P w K mg base) : DefOk P w K mg base "_law_places" ["m", "row", "entries"] 13 (sp_lplaces K) := by
  refine DefOk.by T.d__law_places sc__law_places oc__law_places (fun vs H Q E h => ?_) (fun X e1 e2 e3 e4 e5 C H vs Q E h => ?_)
  · obtain ⟨m, a, e, n, f, row, es, rfl, _⟩ := h; rfl
  · obtain ⟨m, a, e, n, f, row, es, rfl, hm, ha, he, wt, hn, q⟩ := h
    have th := wt.thing
    have hp := isThing_pos th
    have el := wt.el
    have rl := wt.len
    have p0 : placesN n f row es = if row.getD 0 0 = 2 then citesN row else if row.getD 0 0 = 4 then backsN row ++ entsN n f es else [] := rfl
    have nc : ¬ ("cite" : Str) = ("entry" : Str) := by decide +kernel
    have nb : ¬ ("back" : Str) = ("entry" : Str) := by decide +kernel
    wtm_at "go"
    wtm_at "w"
    refine vx_tup ha (at_getD 0 (by omega)) ?_
    wtm_at "w"
    refine ite_d (fun h2 => ?_) (fun h2 => ?_)
    · obtain ⟨l2, l3⟩ := isThing_doc th h2
      rw [if_pos h2] at p0
      have c0 := wt.ok.one
      refine xb_cons ?_
      refine xs_ret ?_
      refine xe_lc C ?_
      refine xlc_R1 (Vs' := ["row", "k"]) (G' := []) (nm := "k") (i := 4) (by assumption) ⟨rfl, by decide +kernel, by decide +kernel, rfl, by decide +kernel, by decide⟩ (by wtm_at "m") T.b_range ?_
      wtm_at "w"
      refine vx_tup ha (at_getD 1 (by omega)) ?_
      wtm_at "w"
      refine ⟨_, rfl, by omega, by omega, fun L H1 k1 nL hL => ⟨fun t H' => LcD X.K H L ((citesN row).map plpD) t H', .start k1 hL, ?_, ?_⟩⟩
      · rintro t H2 ht I
        have ha2 := I.1.tup ha
        refine ⟨_, by wtm_at "u", ?_⟩
        intro s0 H0 c' cl fp C'
        clear k1
        refine xe_tup ?_
        refine xa_cons ?_
        refine xe_tup ?_
        refine xa_cons ?_
        refine xe_str ?_
        wtm_at "w"
        intro t1 H3 k3 h3 _
        have ha3 := k3.tup ha2
        have hid3 : Kp [] H2 H3 ∧ True := ⟨k3, trivial⟩
        clear k3
        wtm_at "w"
        refine vx_tup ha3 (at_getDi (j := 2 + t) (by omega) (by omega)) ?_
        wtm_at "w"
        intro t2 H4 k4 h4 _
        refine I.fin nL (hid3.1.tr0 k4) (noLs_plp _) (d := plpD (⟨"cite", (t : Int), []⟩, row.getD (2 + t) 0)) ?_ ?_ (by omega)
        · unfold citesN
          rw [List.getElem?_map, List.getElem?_map, List.getElem?_range (by omega)]; rfl
        · unfold plpD
          rw [plD_two nc]
          exact .tup h4 (.cons (.tup (k4.tup h3) (.cons (.str _) (.cons (.int _) .nil))) (.cons (.int _) .nil))
      · rintro H2 ⟨k2, us, hus, hd⟩
        refine q L us H2 k2 nL hus ?_
        rw [p0]
        rw [List.take_of_length_le (by rw [List.length_map]; unfold citesN; rw [List.length_map, List.length_range]; omega)] at hd
        exact hd
    · rw [if_neg h2] at p0
      wtm_at "w"
      refine vx_tup ha (at_getD 0 (by omega)) ?_
      wtm_at "w"
      refine ite_nd (fun h4 => ?_) (fun h4 => ?_)
      · rw [if_neg h4] at p0
        wtm_at "w"
        intro L H1 k1 nL hL
        exact q L [] H1 k1 nL hL (by rw [p0]; exact .nil)
      · rw [if_pos h4] at p0
        obtain ⟨l6, _⟩ := isThing_hd th h4
        wtm_at "w"
        refine xs_setLc C (by wtm_at "m") (by decide +kernel) rfl (by decide +kernel) ?_
        refine xlc_R1 (Vs' := ["row", "k"]) (G' := []) (nm := "k") (i := 4) (by assumption) ⟨rfl, by decide +kernel, by decide +kernel, rfl, by decide +kernel, by decide⟩ (by wtm_at "m") T.b_range ?_
        wtm_at "w"
        rw [List.length_map]
        have e6 : ((row.length : Int) - 6).toNat = row.length - 6 := by omega
        refine ⟨_, rfl, by omega, by omega, fun L H1 k1 nL hL => ⟨fun t H' => LcD X.K H L ((backsN row).map plpD) t H', .start k1 hL, ?_, ?_⟩⟩
        · rintro t H2 ht I
          have ha2 := I.1.tup ha
          refine ⟨_, by wtm_at "u", ?_⟩
          intro s0 H0 c' cl fp C'
          clear k1
          refine xe_tup ?_
          refine xa_cons ?_
          refine xe_tup ?_
          refine xa_cons ?_
          refine xe_str ?_
          wtm_at "w"
          intro t1 H3 k3 h3 _
          have ha3 := k3.tup ha2
          have hid3 : Kp [] H2 H3 ∧ True := ⟨k3, trivial⟩
          clear k3
          wtm_at "w"
          refine vx_tup ha3 (at_getDi (j := 6 + t) (by omega) (by omega)) ?_
          wtm_at "w"
          intro t2 H4 k4 h4' _
          refine I.fin nL (hid3.1.tr0 k4) (noLs_plp _) (d := plpD (⟨"back", (t : Int), []⟩, row.getD (6 + t) 0)) ?_ ?_ (by omega)
          · unfold backsN
            rw [List.getElem?_map, List.getElem?_map, List.getElem?_range (by omega)]; rfl
          · unfold plpD
            rw [plD_two nb]
            exact .tup h4' (.cons (.tup (k4.tup h3) (.cons (.str _) (.cons (.int _) .nil))) (.cons (.int _) .nil))
        · rintro H2 ⟨k2, us, hus, hd⟩
          rw [List.take_of_length_le (by rw [List.length_map]; unfold backsN; rw [List.length_map, List.length_range]; omega)] at hd
          have hm2 := k2.tup hm
          have he2 := k2.at0 he
          clear k1
          refine ⟨_, by wtm_at "u", ?_⟩
          refine xb_cons ?_
          refine xs_ret ?_
          refine xe_bin ?_
          wtm_at "w"
          refine xe_lc C ?_
          refine xlc_R1 (Vs' := ["m", "entries", "k"]) (G' := ["_law_way"]) (nm := "k") (i := 4) (by assumption) ⟨rfl, by decide +kernel, by decide +kernel, rfl, by decide +kernel, by decide⟩ (by wtm_at "m") T.b_range ?_
          wtm_at "w"
          rw [List.length_map]
          refine ⟨_, rfl, by omega, by omega, fun L2' H3 k3 nL2 hL2 => ⟨fun t H' => LcD X.K H2 L2' ((entsN n f es).map plpD) t H', .start k3 hL2, ?_, ?_⟩⟩
          · rintro t H4 ht I
            have hm4 := I.1.tup hm2
            have he4 := I.1.at0 he2
            refine ⟨_, by wtm_at "u", ?_⟩
            intro s0 H0 c' cl fp C'
            clear k3 k2
            refine xe_tup ?_
            refine xa_cons ?_
            refine xe_tup ?_
            refine xa_cons ?_
            refine xe_str ?_
            wtm_at "w"
            refine ⟨m, e, n, f, es, t, rfl, hm4, Z.SqL.of' he4, by omega, by omega, hn, fun wa H5 k5 hw5 => ?_⟩
            have he5 := k5.at0 he4
            have hid5 : Kp [] H4 H5 ∧ True := ⟨k5, trivial⟩
            clear k5
            wtm_at "w"
            intro t1 H6 k6 h6 _
            have he6 := k6.at0 he5
            have hw6 := k6.tup hw5
            have hid6 : Kp [] H4 H6 ∧ True := ⟨hid5.1.tr0 k6, trivial⟩
            clear k6
            wtm_at "w"
            refine vx_lst (Z.SqL.of' he6) (at_getD t (by omega)) ?_
            wtm_at "w"
            intro t2 H7 k7 h7 _
            refine I.fin nL2 (hid6.1.tr0 k7) (noLs_plp _) (d := plpD (⟨"entry", (t : Int), wy n f es t⟩, es.getD t 0)) ?_ ?_ (by omega)
            · unfold entsN
              rw [List.getElem?_map, List.getElem?_map, List.getElem?_range (by omega)]; rfl
            · unfold plpD
              rw [plD_three]
              exact .tup h7 (.cons (.tup (k7.tup h6) (.cons (.str _) (.cons (.int _) (.cons (dp_T (k7.tup hw6)) .nil)))) (.cons (.int _) .nil))
          · rintro H4 ⟨k4, us2, hus2, hd2⟩
            rw [List.take_of_length_le (by rw [List.length_map]; unfold entsN; rw [List.length_map, List.length_range]; omega)] at hd2
            have lu := dpAll_len hd
            have lu2 := dpAll_len hd2
            rw [List.length_map] at lu lu2
            unfold backsN at lu
            unfold entsN at lu2
            rw [List.length_map, List.length_range] at lu lu2
            refine vo_catL (k4.at0 hus) hus2 (sz_ (by omega)) (fun p H5 k5 np h5 => ?_)
            refine q p _ H5 ((k2.tr0 k4).tr0 k5) ((k2.tr0 k4).n _ np) h5 ?_
            rw [p0, List.map_append]
            exact dpAll_app (dpAll_kp (k4.tr0 k5) hd) (dpAll_kp k5 hd2)
end
/-! _law_fits_back -/
section
local macro_rules | `(tactic| wtm_at "d") => `(tactic| first | ((with_reducible show Z.XE _ (PySem.Expr.Call (PySem.Expr.Name "_law_backs" _) (_ :: _) [] _) _ _ _); refine Z.xe_call (by assumption) (Law.ok__law_backs T) (by wtm_at "m") (by omega) ?_) | fail)
def sp_fits (K : PySem.W.Frag) : Sp := fun vs H Q _ => ∃ (b a pa : Addr) (bs rs : List Int) (p : Pl), vs = [.ref b, .ref a, .ref pa] ∧ SqT K H b (bs.map V.int) ∧ SqT K H a (rs.map V.int) ∧ PlAt K H pa p ∧ isThing bs = true ∧ isThing rs = true ∧ (p.w = ("back" : Str) → hasPl rs p = true) ∧ (rs.getD 0 0 = 4 → 0 ≤ rs.getD 2 0 ∧ rs.getD 2 0 < 2 ^ 69) ∧ ∀ H', Kp [] H H' → Q (.bl (rrB bs rs p)) H'
theorem ok__law_fits_back (T : Txt P w K mg base) : DefOk P w K mg base "_law_fits_back" ["before", "row", "place"] 3 (sp_fits K) := by
  refine DefOk.by T.d__law_fits_back sc__law_fits_back oc__law_fits_back (fun vs H Q E h => ?_) (fun X e1 e2 e3 e4 e5 C H vs Q E h => ?_)
  · obtain ⟨b, a, pa, bs, rs, p, rfl, _⟩ := h; rfl
  · obtain ⟨b, a, pa, bs, rs, p, rfl, hb, hr, hpl, tb, th, hh, h2, q⟩ := h
    have h0 : rrB bs rs p = if p.w = ("back" : Str) then decide (bs.getD 0 0 = 4 ∧ bs.getD 1 0 = rs.getD 1 0 ∧ bs.getD 2 0 = rs.getD 2 0 - 2 ^ p.i.toNat ∧ bs.getD 3 0 < rs.getD 3 0) else true := rfl
    have pb := isThing_pos tb
    obtain ⟨r, hpa, hx⟩ := id hpl
    wtm_at "go"
    wtm_at "w"
    refine xe_str ?_
    wtm_at "w"
    refine ite_nd (fun h1 => ?_) (fun h1 => ?_)
    · rw [if_neg h1] at h0
      wtm_at "w"
      have := q H (Kp.refl _ _)
      rw [h0] at this
      exact this
    · rw [if_pos h1] at h0
      obtain ⟨r4, i0, i1⟩ := hasPl_back (hh h1) h1
      rw [List.length_drop] at i1
      obtain ⟨r6, _, rc⟩ := isThing_hd th r4
      obtain ⟨k0, k1'⟩ := h2 r4
      have bad : ¬ (bs.getD 0 0 = 4 ∧ bs.getD 1 0 = rs.getD 1 0 ∧ bs.getD 3 0 < rs.getD 3 0) → Q (.bl false) H := fun z => by
        have := q H (Kp.refl _ _)
        rw [h0, decide_eq_false (fun y => z ⟨y.1, y.2.1, y.2.2.2⟩)] at this
        exact this
      wtm_at "w"
      refine vx_tup hb (at_getD 0 (by omega)) ?_
      wtm_at "w"
      refine ite_nd (fun c0 => ?_) (fun c0 => ?_)
      · wtm_at "w"
        exact bad (fun z => c0 z.1)
      · obtain ⟨b6, _⟩ := isThing_hd tb c0
        wtm_at "w"
        refine vx_tup hb (at_getD 1 (by omega)) ?_
        wtm_at "w"
        refine vx_tup hr (at_getD 1 (by omega)) ?_
        wtm_at "w"
        refine ite_nd (fun c1 => ?_) (fun c1 => ?_)
        · wtm_at "w"
          exact bad (fun z => c1 z.2.1)
        · wtm_at "w"
          refine vx_tup hb (at_getD 3 (by omega)) ?_
          wtm_at "w"
          refine vx_tup hr (at_getD 3 (by omega)) ?_
          wtm_at "w"
          refine ite_d (fun c3 => ?_) (fun c3 => ?_)
          · wtm_at "w"
            exact bad (fun z => by have := z.2.2; omega)
          · wtm_at "w"
            refine vx_tup hb (at_getD 2 (by omega)) ?_
            wtm_at "w"
            refine vx_tup hr (at_getD 2 (by omega)) ?_
            wtm_at "w"
            refine ⟨_, rfl, k0, k1', fun L H1 kk1 nL hL => ?_⟩
            have hpa1 := kk1.tup hpa
            wtm_at "w"
            obtain ⟨j, hj⟩ := Int.eq_ofNat_of_zero_le i0
            rw [hj] at i1
            have hb1 : (bkTo (rs.getD 2 0) (cntB (rs.getD 2 0)))[j]? = some (rs.getD 2 0 - 2 ^ j) := by
              unfold bkTo
              rw [List.getElem?_map, List.getElem?_range (by omega)]; rfl
            rw [hj]
            refine vx_lst (Z.SqL.of' hL) (at_map_nat hb1) ?_
            refine vo_eq ?_
            have := q H1 kk1
            rw [h0, hj, Int.toNat_natCast] at this
            have e : decide (bs.getD 2 0 = rs.getD 2 0 - 2 ^ j) = decide (bs.getD 0 0 = 4 ∧ bs.getD 1 0 = rs.getD 1 0 ∧ bs.getD 2 0 = rs.getD 2 0 - 2 ^ j ∧ bs.getD 3 0 < rs.getD 3 0) := by
              apply decide_eq_decide.mpr
              exact ⟨fun z => ⟨c0, c1, z, by omega⟩, fun z => z.2.2.1⟩
            rw [e]; exact this
end
/-! knW -/
/-! what is known: the digest, the row's place, its entries' place, the thing -/
abbrev KN := Int × Addr × Addr × (List Int × List Int)
def seenK (ws : List KN) : List (Key × V) := ws.map fun w => (.inl w.1, .ref w.2.1)
def lkW : List KN → Int → Option KN
  | [], _ => none
  | w :: r, x => if w.1 = x then some w else lkW r x
theorem valV_seenK (x : Int) : ∀ ws : List KN, valV (seenK ws) (.inl x) = (lkW ws x).map fun w => V.ref w.2.1
  | [] => rfl
  | w :: r => by
    rw [lkW]
    show valV ((Sum.inl w.1, V.ref w.2.1) :: seenK r) (.inl x) = _
    by_cases e : w.1 = x
    · rw [if_pos e, valV_pos (by rw [e])]; rfl
    · rw [if_neg e, valV_neg (fun z => e (Sum.inl.inj z)), valV_seenK x r]
theorem lkW_mem : ∀ {ws : List KN} {x : Int} {w : KN}, lkW ws x = some w → w ∈ ws ∧ w.1 = x
  | [], x, w, h => nomatch h
  | v :: r, x, w, h => by
    rw [lkW] at h
    by_cases e : v.1 = x
    · rw [if_pos e] at h
      have := Option.some.inj h
      rw [← this]; exact ⟨List.mem_cons_self, e⟩
    · rw [if_neg e] at h
      have := lkW_mem h
      exact ⟨List.mem_cons_of_mem _ this.1, this.2⟩
theorem lkW_none : ∀ {ws : List KN} {x : Int}, lkW ws x = none → ∀ w ∈ ws, w.1 ≠ x
  | [], _, _, w, m => nomatch m
  | v :: r, x, h, w, m => by
    rw [lkW] at h
    by_cases e : v.1 = x
    · rw [if_pos e] at h; cases h
    · rw [if_neg e] at h
      rcases List.mem_cons.mp m with z | z
      · rw [z]; exact e
      · exact lkW_none h w z
theorem lkW_not : ∀ {ws : List KN} {x : Int}, (∀ w ∈ ws, w.1 ≠ x) → lkW ws x = none
  | [], _, _ => rfl
  | v :: r, x, h => by rw [lkW, if_neg (h v List.mem_cons_self), lkW_not fun w m => h w (List.mem_cons_of_mem _ m)]
theorem lkW_nd : ∀ {ws : List KN}, (ws.map fun w => w.1).Nodup → ∀ w ∈ ws, lkW ws w.1 = some w
  | [], _, w, m => nomatch m
  | v :: r, nd, w, m => by
    rw [List.map_cons, List.nodup_cons] at nd
    rw [lkW]
    rcases List.mem_cons.mp m with z | z
    · rw [z, if_pos rfl]
    · rw [if_neg (fun e => nd.1 (by rw [e]; exact List.mem_map_of_mem (f := fun w : KN => w.1) z)), lkW_nd nd.2 w z]
/-- ahead of the i-th none has its digest -/
theorem lkW_take {ws : List KN} {i : Nat} {w : KN} (nd : (ws.map fun w => w.1).Nodup) (h : ws[i]? = some w) : lkW (ws.take i) w.1 = none := by
  refine lkW_not fun v m e => ?_
  have hi := (List.getElem?_eq_some_iff.mp h).1
  have e2 : ws = ws.take i ++ w :: ws.drop (i + 1) := by
    have := List.getElem?_eq_some_iff.mp h
    obtain ⟨h1, h2⟩ := this
    rw [← h2, List.getElem_cons_drop, List.take_append_drop]
  rw [e2, List.map_append, List.nodup_append] at nd
  exact nd.2.2 v.1 (List.mem_map_of_mem (f := fun w : KN => w.1) m) w.1 (by simp) e
/-! _law_closedC -/
section
local macro_rules | `(tactic| wtm_at "d") => `(tactic| first | ((with_reducible show Z.XE _ (PySem.Expr.Call (PySem.Expr.Name "len" _) (_ :: _) [] _) _ _ _); refine Z.xe_callB (id := "len") (by assumption) (by wtm_at "m") T.b_len (by decide +kernel) ?_) | ((with_reducible show Z.XE _ (PySem.Expr.Call (PySem.Expr.Name "_law_digest" _) (_ :: _) [] _) _ _ _); refine Z.xe_call (by assumption) (Law.ok__law_digest T) (by wtm_at "m") (by omega) ?_) | ((with_reducible show Z.XE _ (PySem.Expr.Call (PySem.Expr.Name "_law_places" _) (_ :: _) [] _) _ _ _); refine Z.xe_call (by assumption) (Law.ok__law_places T) (by wtm_at "m") (by omega) ?_) | fail)
/-! what is whole: things whose digests are all known ahead of them -/
def kwOf (n f : Int) (t : It4) : KN := (dig n f t.2.2.1, t.1, t.2.1, t.2.2)
def ClsK (n f : Int) (ws : List KN) : Prop := ∀ (i : Nat) (x : KN), ws[i]? = some x → ∀ y ∈ placesN n f x.2.2.2.1 x.2.2.2.2, lkW (ws.take i) y.2 ≠ none
theorem ClsK.add {n f : Int} {ws : List KN} {x : KN} (h : ClsK n f ws) (hx : ∀ y ∈ placesN n f x.2.2.2.1 x.2.2.2.2, lkW ws y.2 ≠ none) : ClsK n f (ws ++ [x]) := by
  intro i u hu y my
  by_cases hi : i < ws.length
  · rw [List.getElem?_append_left hi] at hu
    rw [List.take_append_of_le_length (by omega)]
    exact h i u hu y my
  · have hl := (List.getElem?_eq_some_iff.mp hu).1
    rw [List.length_append, List.length_singleton] at hl
    have e : i = ws.length := by omega
    subst e
    rw [List.getElem?_append_right (Nat.le_refl _), Nat.sub_self] at hu
    have : u = x := by simpa using hu.symm
    subst this
    rw [List.take_append_of_le_length (Nat.le_refl _), List.take_length]
    exact hx y my
theorem placesN_lenW {n f : Int} {row es : List Int} (wt : Wt n f row es) : (placesN n f row es).length ≤ 200 := by
  have th := wt.thing
  have el := wt.el
  have rl := wt.len
  unfold placesN citesN backsN entsN
  by_cases h2 : row.getD 0 0 = 2
  · obtain ⟨z1, z2⟩ := isThing_doc th h2
    rw [if_pos h2, List.length_map, List.length_range]; omega
  · rw [if_neg h2]
    by_cases h4 : row.getD 0 0 = 4
    · rw [if_pos h4, List.length_append, List.length_map, List.length_map, List.length_range, List.length_range]; omega
    · rw [if_neg h4]; simp
/-- a list that begins like a world: some of its things -/
structure CAt (K : PySem.W.Frag) (H : Hp) (w m l1 d : Addr) (rest : List V) (n f : Int) (its its0 : List It4) : Prop where
  hw : H w = some (.lst (.ref m :: .ref l1 :: .ref d :: rest))
  hm : SqT K H m [.int n, .int f]
  h1 : H l1 = some (.lst (its.map fun t => .ref t.1))
  hd : H d = some (.dT (kvsW its0))
  it : ∀ t ∈ its, H t.1 = some (.tup (t.2.2.1.map V.int)) ∧ H t.2.1 = some (.lst (t.2.2.2.map V.int)) ∧ Wt n f t.2.2.1 t.2.2.2
  ds : ∀ t ∈ its, lkI its0 t.2.2.1 = some t
theorem CAt.new {K : PySem.W.Frag} {A : List Addr} {H H' : Hp} {w m l1 d : Addr} {rest : List V} {n f : Int} {its its0 : List It4} (h : CAt K H w m l1 d rest n f its its0) (k : Kp A H H') (hA : ∀ l ∈ A, H l = none) : CAt K H' w m l1 d rest n f its its0 := by
  have kp : ∀ {q o}, H q = some o → H' q = some o := fun {q o} e => k.at (fun m => some_ne e (hA q m) rfl) e
  exact ⟨kp h.hw, k.tup h.hm, kp h.h1, kp h.hd, fun t m => ⟨kp (h.it t m).1, kp (h.it t m).2.1, (h.it t m).2.2⟩, h.ds⟩
theorem CAt.kp {K : PySem.W.Frag} {H H' : Hp} {w m l1 d : Addr} {rest : List V} {n f : Int} {its its0 : List It4} (h : CAt K H w m l1 d rest n f its its0) (k : Kp [] H H') : CAt K H' w m l1 d rest n f its its0 := h.new k (fun l m => nomatch m)
theorem WAt.c {K : PySem.W.Frag} {H : Hp} {w m l1 d l3 : Addr} {n f : Int} {its : List It4} (h : WAt K H w m l1 d l3 n f its) : CAt K H w m l1 d [.ref l3] n f its its := ⟨h.hw, h.hm, h.h1, h.hd, h.it, h.ds⟩
def sp_closed (K : PySem.W.Frag) : Sp := fun vs H Q _ => ∃ (w m l1 d : Addr) (rest : List V) (n f : Int) (its its0 : List It4), vs = [.ref w] ∧ CAt K H w m l1 d rest n f its its0 ∧ its.length ≤ 50 ∧ 0 < n ∧
  ∀ (S : Addr) (ws : List KN) H', Kp [] H H' → H S = none → H' S = some (.dK (seenK ws)) → (∀ x ∈ ws, ∃ t ∈ its, x = kwOf n f t) → (ws.map fun x => x.1).Nodup → ws.length ≤ its.length → ClsK n f ws → Q (.ref S) H'
theorem ok__law_closed (T : Txt P w K mg base) : DefOk P w K mg base "_law_closed" ["world"] 15 (sp_closed K) := by
  refine DefOk.by T.d__law_closed sc__law_closed oc__law_closed (fun vs H Q E h => ?_) (fun X e1 e2 e3 e4 e5 C H vs Q E h => ?_)
  · obtain ⟨w, m, l1, d, rest, n, f, its, its0, rfl, _⟩ := h; rfl
  · obtain ⟨w, m, l1, d, rest, n, f, its, its0, rfl, W, li, hn, q⟩ := h
    wtm_at "go"
    wtm_at "w"
    refine xe_dnewK (fun S H1 k1 nS hS => ?_)
    have W1 := W.kp k1
    have hw1 := W1.hw
    have hid1 : Kp [] H H1 ∧ True := ⟨k1, trivial⟩
    clear k1
    refine ⟨_, by wtm_at "u", ?_⟩
    refine xb_cons ?_
    refine xs_forL (by assumption) ?_
    wtm_at "w"
    refine ⟨l1, _, rfl, Z.SqL.of' W1.h1, fun i σ H' => ∃ (ws : List KN) (v1 v2 v3 v4 v5 v6 : Option V), σ = [some (.ref w), some (.ref S), v1, v2, v3, v4, v5, v6] ∧ Kp [S] H1 H' ∧ H' S = some (.dK (seenK ws)) ∧ (∀ x ∈ ws, ∃ t ∈ its, x = kwOf n f t) ∧ (ws.map fun x => x.1).Nodup ∧ ws.length ≤ i ∧ ClsK n f ws, ⟨[], _, _, _, _, _, _, rfl, Kp.refl _ _, hS, fun _ m => (nomatch m), .nil, by decide, fun _ _ h => by simp at h⟩, ?_, ?_, ?_⟩
    · rintro i σ' H' _ ⟨ws, v1, v2, v3, v4, v5, v6, rfl, k, _⟩
      exact Z.SqL.of' (W.new (A := [S]) ((hid1.1.wk (fun l m => nomatch m)).tr k (fun l m => .inl m)) (fun l ml => by rw [List.mem_singleton.mp ml]; exact nS)).h1
    · rintro i y σ' H2 hy ⟨ws, v1, v2, v3, v4, v5, v6, rfl, k2, s2, a2, nd2, l2, c2⟩
      have hj : i < its.length := by
        have := (List.getElem?_eq_some_iff.mp hy).1
        rwa [List.length_map] at this
      have tm := List.getElem_mem hj
      have ey : V.ref its[i].1 = y := by
        rw [List.getElem?_map, List.getElem?_eq_getElem hj] at hy
        exact Option.some.inj hy
      subst ey
      generalize its[i] = t at tm
      have W2 : CAt X.K H2 w m l1 d rest n f its its0 := W.new (A := [S]) ((hid1.1.wk (fun l m => nomatch m)).tr k2 (fun l m => .inl m)) (fun l ml => by rw [List.mem_singleton.mp ml]; exact nS)
      have hw2 := W2.hw
      have hm2 := W2.hm
      obtain ⟨g1, g2, wt⟩ := W2.it t tm
      have gt := Z.SqT.of' (K := X.K) g1
      have gl := wt.len
      have dget : DGet H2 d (.ref t.1) (some (.ref t.2.1)) := .inr ⟨_, keyOf t.2.2.1, t.1, .inl W2.hd, rfl, by rw [keyOf_kV]; exact g1, by rw [valV_kvsW, W2.ds t tm]; rfl⟩
      have hid2 : Kp [S] H1 H2 ∧ True := ⟨k2, trivial⟩
      clear k2 hw1
      refine xg_name C (by wtm_at "m") (by wtm_at "m") ?_
      refine ⟨_, by wtm_at "u", ?_⟩
      refine xb_cons ?_
      refine xs_setLc C (by wtm_at "m") (by decide +kernel) rfl (by decide +kernel) ?_
      refine xlc_L (Vs' := ["pair"]) (G' := []) (nm := "pair") (i := 6) (by assumption) ⟨rfl, by decide +kernel, by decide +kernel, rfl, by decide +kernel, by decide⟩ ?_
      refine xe_call (by assumption) (ok__law_places T) (by wtm_at "m") (by omega) ?_
      wtm_at "w"
      refine vx_dict (by assumption) dget ?_
      wtm_at "w"
      refine ⟨m, t.1, t.2.1, n, f, t.2.2.1, t.2.2.2, rfl, hm2, gt, g2, wt, hn, fun lp us H3 k3 np hus hd => ?_⟩
      have lpl := placesN_lenW wt
      have lu := dpAll_len hd
      rw [List.length_map] at lu
      have W3 := W2.kp k3
      have s3 := k3.at0 s2
      have hid3 : Kp [S] H1 H3 ∧ True := ⟨hid2.1.tr0 k3, trivial⟩
      have nlS : lp ≠ S := (ne_of_none s2 np).symm
      clear k3 dget hid2 hw2 hm2 gt g1 g2 W2
      refine ⟨lp, us, rfl, Z.SqL.of' hus, fun hl H4 k4 nhl hhl => ?_⟩
      have hids : ∀ x ∈ (placesN n f t.2.2.1 t.2.2.2).map (fun y => y.2), ∃ y ∈ placesN n f t.2.2.1 t.2.2.2, y.2 = x := fun x mx => List.mem_map.mp mx
      refine ⟨fun j H' => Kp [] H3 H' ∧ H' hl = some (.lst ((((placesN n f t.2.2.1 t.2.2.2).map fun y => y.2).take j).map V.int)), ⟨k4, by rw [List.take_zero]; exact hhl⟩, ?_, ?_, ?_⟩
      · rintro j H' _ ⟨k, _⟩
        exact Z.SqL.of' (k.at0 hus)
      · rintro j y H5 hy ⟨k5, h5⟩
        have hj : j < (placesN n f t.2.2.1 t.2.2.2).length := by
          have := (List.getElem?_eq_some_iff.mp hy).1
          omega
        obtain ⟨y', hy', dy⟩ := dpAll_at hd (i := j) (d := plpD (placesN n f t.2.2.1 t.2.2.2)[j]) (by rw [List.getElem?_map, List.getElem?_eq_getElem hj]; rfl)
        have ey : y' = y := Option.some.inj (hy'.symm.trans hy)
        subst ey
        have hdi : ((placesN n f t.2.2.1 t.2.2.2).map fun y => y.2)[j]? = some (placesN n f t.2.2.1 t.2.2.2)[j].2 := by rw [List.getElem?_map, List.getElem?_eq_getElem hj]; rfl
        generalize (placesN n f t.2.2.1 t.2.2.2)[j] = x at dy hdi
        obtain ⟨p, pd⟩ := x
        have dy5 := dp_kpT k5 (by simp [plpD, noL, noLs, noL_pl]) dy
        obtain ⟨pr, vs2, rfl, hpr, da⟩ := dp_tupI dy5
        obtain ⟨x1, x2, rfl, d1, d2⟩ := dpAll2 da
        have e2' := dp_intI d2
        subst e2'
        have hid5 : Kp [] H3 H5 ∧ True := ⟨k5, trivial⟩
        clear k5 k4 hy hy' dy dy5 da d2 d1
        refine ⟨_, by wtm_at "u", ?_⟩
        intro s0 H0 c' cl fp C'
        wtm_at "w"
        refine ⟨_, h5, szl (by rw [List.length_map, List.length_take]; omega), fun H6 k6 h6 => ⟨hid5.1.tr1 k6 (.inr nhl), ?_⟩⟩
        rw [h6, List.take_add_one, hdi, List.map_append]; rfl
      · rintro H5 ⟨k5, h5⟩
        rw [List.take_of_length_le (by rw [List.length_map]; omega)] at h5
        have W5 := W3.kp k5
        have hw5 := W5.hw
        have hm5 := W5.hm
        have s5 := k5.at0 s3
        have nhS : hl ≠ S := (ne_of_none s3 nhl).symm
        have gt5 := Z.SqT.of' (K := X.K) (W5.it t tm).1
        have hid5 : Kp [S] H1 H5 ∧ True := ⟨hid3.1.tr0 k5, trivial⟩
        clear k5 k4 hid3 W3 s3 hhl hus hd
        refine ⟨_, by wtm_at "u", ?_⟩
        wtm_at "w"
        refine xe_lc C ?_
        refine xlc_L (Vs' := ["one", "known"]) (G' := []) (nm := "one") (i := 7) (by assumption) ⟨rfl, by decide +kernel, by decide +kernel, rfl, by decide +kernel, by decide⟩ ?_
        wtm_at "w"
        refine ⟨hl, _, rfl, Z.SqL.of' h5, fun ml H6 k6 nml hml => ?_⟩
        refine ⟨fun j H' => Kp [] H5 H' ∧ ∃ ms : List Int, H' ml = some (.lst (ms.map V.int)) ∧ ms.length ≤ j ∧ (ms = [] → ∀ x ∈ ((placesN n f t.2.2.1 t.2.2.2).map fun y => y.2).take j, lkW ws x ≠ none), ⟨k6, [], hml, Nat.le_refl _, fun _ x mx => by simp at mx⟩, ?_, ?_, ?_⟩
        · rintro j H' _ ⟨k, _⟩
          exact Z.SqL.of' (k.at0 h5)
        · rintro j y H7 hy ⟨k7, ms, h7, lm, cm⟩
          have hj := (List.getElem?_eq_some_iff.mp hy).1
          rw [List.length_map] at hj
          have ey : V.int ((placesN n f t.2.2.1 t.2.2.2).map fun y => y.2)[j] = y := by
            rw [List.getElem?_map, List.getElem?_eq_getElem hj] at hy
            exact Option.some.inj hy
          subst ey
          have hdi := List.getElem?_eq_getElem hj
          rw [List.length_map] at hj
          generalize ((placesN n f t.2.2.1 t.2.2.2).map fun y => y.2)[j] = x at hdi
          have s7 := k7.at0 s5
          have hid7 : Kp [] H5 H7 ∧ True := ⟨k7, trivial⟩
          clear k7 k6 hy
          refine ⟨_, by wtm_at "u", ?_⟩
          intro s0 H0 c' cl fp C'
          wtm_at "w"
          refine vo_notInD C' (.inl ⟨_, .inl x, .inl s7, rfl, rfl⟩) ?_
          rw [valV_seenK]
          cases hk : lkW ws x with
          | none =>
            refine ex_bl ?_
            refine L2.iteT ?_
            intro s1 H9 c2 cl2 fp2 C2
            wtm_at "w"
            refine ⟨_, h7, szl (by rw [List.length_map]; omega), fun H8 k8 h8 => ⟨hid7.1.tr1 k8 (.inr nml), ms ++ [x], by rw [h8, List.map_append]; rfl, by simp; omega, fun e => by simp at e⟩⟩
          | some u =>
            refine ex_bl ?_
            refine L2.iteF ?_
            refine ⟨hid7.1, ms, h7, by omega, fun e z mz => ?_⟩
            rw [List.take_add_one, hdi] at mz
            rcases List.mem_append.mp mz with z1 | z1
            · exact cm e z z1
            · have : z = x := by simpa using z1
              rw [this, hk]; simp
        · rintro H7 ⟨k7, ms, h7, lm, cm⟩
          rw [List.length_map, List.length_map] at lm
          rw [List.length_map, List.take_of_length_le (Nat.le_refl _)] at cm
          have W7 := W5.kp k7
          have hw7 := W7.hw
          have hm7 := W7.hm
          have s7 := k7.at0 s5
          have gt7 := k7.tup gt5
          have hid7 : Kp [S] H1 H7 ∧ True := ⟨hid5.1.tr0 k7, trivial⟩
          clear k7 k6 hid5 W5 hw5 hm5 s5 gt5 h5 hml
          wtm_at "w"
          refine ⟨m, t.1, n, f, t.2.2.1, rfl, hm7, gt7, hn, by omega, fun H8 k8 => ?_⟩
          have s8 := k8.at0 s7
          have hid8 : Kp [S] H1 H8 ∧ True := ⟨hid7.1.tr0 k8, trivial⟩
          clear k8 hid7 s7 h7
          wtm_at "w"
          rw [List.length_map]
          refine ite_d (fun h0 => ?_) (fun h0 => ?_)
          · have e0 : ms = [] := List.eq_nil_of_length_eq_zero (by omega)
            have cm := cm e0
            wtm_at "w"
            refine vo_notInD C (.inl ⟨_, .inl (dig n f t.2.2.1), .inl s8, rfl, rfl⟩) ?_
            rw [valV_seenK]
            cases hk : lkW ws (dig n f t.2.2.1) with
            | none =>
              refine ex_bl ?_
              refine L2.iteT ?_
              refine xb_cons ?_
              refine xs_dput (by assumption) ?_
              wtm_at "w"
              refine ⟨S, seenK ws, .inl (dig n f t.2.2.1), rfl, rfl, s8, szl (by unfold seenK; rw [List.length_map]; omega), fun H9 k9 s9 => ?_⟩
              have vn : valV (seenK ws) (.inl (dig n f t.2.2.1)) = none := by rw [valV_seenK, hk]; rfl
              rw [putK_new _ vn] at s9
              wtm_at "w"
              refine ⟨ws ++ [kwOf n f t], _, _, _, _, _, _, rfl, hid8.1.tr1 k9 (.inl (by simp)), ?_, ?_, ?_, ?_, ?_⟩
              · rw [s9]; unfold seenK; rw [List.map_append]; rfl
              · intro x mx
                rcases List.mem_append.mp mx with z | z
                · exact a2 x z
                · exact ⟨t, tm, List.mem_singleton.mp z⟩
              · rw [List.map_append, List.nodup_append]
                refine ⟨nd2, by simp, fun x hx y hy => ?_⟩
                obtain ⟨u, hu, rfl⟩ := List.mem_map.mp hx
                have ey : y = dig n f t.2.2.1 := by simpa [kwOf] using hy
                rw [ey]; exact lkW_none hk u hu
              · simp; omega
              · exact c2.add fun y my => cm y.2 (List.mem_map_of_mem (f := fun y : Pl × Int => y.2) my)
            | some u =>
              refine ex_bl ?_
              refine L2.iteF ?_
              wtm_at "w"
              exact ⟨ws, _, _, _, _, _, _, rfl, hid8.1, s8, a2, nd2, by omega, c2⟩
          · wtm_at "w"
            exact ⟨ws, _, _, _, _, _, _, rfl, hid8.1, s8, a2, nd2, by omega, c2⟩
    · rintro σ' H2 ⟨ws, v1, v2, v3, v4, v5, v6, rfl, k2, s2, a2, nd2, l2, c2⟩
      rw [List.length_map] at l2
      wtm_at "w"
      exact q S ws H2 (hid1.1.tr k2 (fun l ml => .inr (by rw [List.mem_singleton.mp ml]; exact nS))) nS s2 a2 nd2 l2 c2
end
/-! dvals -/
/-! list(d.values()) -/
theorem kv_vals {kvs : List (Key × V)} {vs : List (Key × Value)} (r : KV kvs vs) : Vals (kvs.map (·.2)) (vs.map (·.2)) := by
  unfold KV at r
  induction r with
  | nil => exact .nil
  | cons h t ih => exact .cons h.2 ih
/-- o.values() -/
def valsOf (o : Expr) (apos mpos : Pos) : Expr := .Call (.Attribute o "values" apos) [] [] mpos
section
variable {X : Cx} {o : Expr} {p pos apos mpos : Pos} {td : TE}
def tListVals (td : TE) : TE := fun σ H Q => td σ H fun x H1 => ∃ a kvs, x = V.ref a ∧ H1 a = some (.dK kvs) ∧ kvs.length ≤ sizeLine ∧ ∀ q, H1 q = none → Q (.ref q) (upd H1 q (.lst (kvs.map (·.2))))
theorem pe_listVals (hc : X.calm = true) (hg : Gl X "list") (hm : X.mg "list" = none) (hd : PE X o td) (hbase : attributeBase o "values" X.env (eval o X.env) = eval o X.env := by rfl) (hline : (apos.endLine == mpos.line) = true := by rfl)
    (hse : starEach [valsOf o apos mpos] X.env = [(false, eval (valsOf o apos mpos) X.env)] := by rfl) :
    PE X (.Call (.Name "list" p) [.Call (.Attribute o "values" apos) [] [] mpos] [] pos) (tListVals td) := by
  refine ⟨fun pins s0 σ H R0 I0 h => ?_⟩
  refine wpAny_Call_Name_kw (ld_blt I0 hg hm (u := .type "list") PyProof.Rows.boot_list ?_ (by first | decide +kernel | decide) (by first | decide +kernel | decide))
  unfold valsOf at hse
  rw [hse]
  refine PySem.callWith_type1 (wpAny_Call_method0_late hbase hline (thn (hd.run pins s0 σ H _ I0 h) fun u0 st1 ⟨x, Hp1, In1, isR, a, kvs, ex, ha, hz, q⟩ => ?_))
  subst ex
  obtain rfl : u0 = Value.ref a := isR
  obtain ⟨_, low, us, kvr, dct⟩ := dk_of In1.hok ha
  have dct0 := dct
  obtain ⟨dob, es0, ep0, ho, ex, hdat, _⟩ := dct0
  refine ⟨"dict", "dict.values", F.plainAttrs_dict, F.slot_dict_values, F.type_dict_values, ⟨dob, ho, ex.1⟩, fun b e => ?_, Calls.callWith_builtin rfl (PySem.evalArgs_none ?_)⟩
  · cases e
    exact ⟨dob, ho, ex.2.1⟩
  refine call_meetsIn F.slot_dict_values ⟨dob, ho, ex.1⟩ F.entry_dict_values (F.args_dict_values_1 _) (meets_dict_values (mixKind X.prog X.w) a low) ⟨⟨us, dct⟩, ?_⟩
  have kept : ∀ b u, st1.heap.get? b = some u → (st1.heap.push { cls := .type "dict_values", data := .fields #[.ref a] }).get? b = some u := fun b u e => Heap.get?_push_of_some _ e
  obtain ⟨es, ep, raw, hsz, hat⟩ := dct.raw
  have hlen : us.length = kvs.length := (KV.length kvr).symm
  have raw1 : (st1.heap.push { cls := .type "dict_values", data := .fields #[.ref a] }).DictRaw a es ep := raw.push _
  show wpAny _ _ _ _ _ _
  refine PySem.W.kdl_call (PySem.KdlSrc.rawValues (r := st1.heap.objs.size) (d := a) (es := es) (ep := ep)) (In1.ok.hd hc) ⟨⟨_, Heap.get?_push_size _ rfl, rfl, rfl⟩, raw1⟩ (by omega) (fun h' tk acc' c' hk hD hacc => ?_)
  obtain ⟨hs2, hi2⟩ := hacc
  have eacc : acc'.toList = us.map (·.2) := by
    apply List.ext_getElem?
    intro i
    by_cases hi : i < es.size
    · have e1 : acc'.toList[i]? = some acc'[i] := by rw [Array.getElem?_toList]; exact Array.getElem?_eq_getElem (by omega)
      obtain ⟨hi', ev⟩ := hi2 i _ (Array.getElem?_eq_getElem (show i < acc'.size by omega))
      have hv : i < us.length := by omega
      have e2 : us[i]? = some (us[i].1, us[i].2) := List.getElem?_eq_getElem hv
      have e3 := (hat i hi _ _ e2).2
      rw [e1, List.getElem?_map, e2, ev, e3]; rfl
    · rw [List.getElem?_eq_none (by rw [Array.length_toList]; omega), List.getElem?_eq_none (by rw [List.length_map]; omega)]
  have sz1 : (st1.heap.push { cls := .type "dict_values", data := .fields #[.ref a] }).objs.size = st1.heap.objs.size + 1 := Heap.size_push _ _
  have le1 : st1.heap.objs.size ≤ (st1.heap.push { cls := .type "dict_values", data := .fields #[.ref a] }).objs.size := by rw [sz1]; omega
  have fr : Hp1 (st1.heap.push { cls := .type "dict_values", data := .fields #[.ref a] }).objs.size = none := In1.hok.fresh le1
  refine ⟨.ref _, upd Hp1 (st1.heap.push { cls := .type "dict_values", data := .fields #[.ref a] }).objs.size (.lst (kvs.map (·.2))), In1.laid (t' := tk) (fun b u e => hk b u (kept b u e)) le1 ⟨by rw [List.length_map]; exact hz, acc'.toList, c', by rw [eacc]; exact kv_vals kvr, hD⟩, rfl, q _ fr⟩
theorem xe_listVals {σ : St} {H : Hp} {Q : VK} {N Vs Ls G : List Str} {k : Nat} {sc : Scope} (C : Ctx X sc N Vs Ls G k) (hg : Mem G "list") (hm : X.mg "list" = none) (h : XE X o σ H fun x H1 => ∃ a kvs, x = V.ref a ∧ H1 a = some (.dK kvs) ∧ kvs.length ≤ sizeLine ∧ ∀ q H', Kp [] H1 H' → H1 q = none → H' q = some (.lst (kvs.map (·.2))) → Q (.ref q) H')
    (hbase : attributeBase o "values" X.env (eval o X.env) = eval o X.env := by rfl) (hline : (apos.endLine == mpos.line) = true := by rfl)
    (hse : starEach [valsOf o apos mpos] X.env = [(false, eval (valsOf o apos mpos) X.env)] := by rfl) : XE X (.Call (.Name "list" p) [.Call (.Attribute o "values" apos) [] [] mpos] [] pos) σ H Q :=
  ⟨_, pe_listVals C.calm (C.gl hg) hm XE.pe hbase hline hse, XE.mono h fun x H1 ⟨a, kvs, e1, e2, e3, q⟩ => ⟨a, kvs, e1, e2, e3, new_ q⟩⟩
end
/-! libF -/
section
local macro_rules | `(tactic| wtm_at "d") => `(tactic| fail)
/-! a library: its mixing, its rows, its heads' entries -/
def libF (m dR dE : Addr) : List (Str × V) := putF "_entries" (.ref dE) (putF "_rows" (.ref dR) (putF "mixing" (.ref m) []))
theorem lib_m (m dR dE : Addr) : (libF m dR dE).lookup ("mixing" : Str) = some (.ref m) := by
  unfold libF; rw [lookup_putF, if_neg (by decide +kernel), lookup_putF, if_neg (by decide +kernel), lookup_putF, if_pos rfl]
theorem lib_r (m dR dE : Addr) : (libF m dR dE).lookup ("_rows" : Str) = some (.ref dR) := by
  unfold libF; rw [lookup_putF, if_neg (by decide +kernel), lookup_putF, if_pos rfl]
theorem lib_e (m dR dE : Addr) : (libF m dR dE).lookup ("_entries" : Str) = some (.ref dE) := by
  unfold libF; rw [lookup_putF, if_pos rfl]
def sp_Library (C : Addr) : Sp := fun vs H Q _ => ∃ (z dx m : Addr), vs = [.ref z, .ref m] ∧ H z = some (.ins C dx []) ∧ ∀ dR dE H', Kp [z] H H' → H' z = some (.ins C dx (libF m dR dE)) → H' dR = some (.dK []) → H' dE = some (.dK []) → dR ≠ dE → H dR = none → H dE = none → Q .non H'
theorem ok_Library (T : Txt P w K mg base) : ClsOk P w K mg base "Library" T.C_Library ["self", "mixing"] 1 (sp_Library T.C_Library) := by
  obtain ⟨f, fd, M, F, b⟩ := T.mk_Library
  refine ⟨f, fd, fnOk_by F sc_Library___init__ oc_Library___init__ (fun vs H Q E h => ?_) (fun X e1 e2 e3 e4 e5 C H vs Q E h => ?_), T.mg_Library, M, b⟩
  · obtain ⟨z, dx, m, rfl, _⟩ := h; rfl
  · obtain ⟨z, dx, m, rfl, h1, q⟩ := h
    wtm_at "go"
    refine xs_fld ?_
    wtm_at "w"
    refine ⟨z, _, dx, _, rfl, h1, T.cl_Library, T.na_Library_mixing, by decide, fun H1 k1 e1 => ?_⟩
    wtm_at "w"
    refine xs_fld ?_
    refine xe_dnewK (fun dR H2 k2 nR hR => ?_)
    wtm_at "w"
    refine ⟨z, _, dx, _, rfl, k2.at0 e1, T.cl_Library, T.na_Library__rows, by show 1 < 1000; decide, fun H3 k3 e3 => ?_⟩
    have zR : z ≠ dR := ne_of_none e1 nR
    have hR3 := k3.at1 (Ne.symm zR) hR
    wtm_at "w"
    refine xs_fld ?_
    refine xe_dnewK (fun dE H4 k4 nE hE => ?_)
    wtm_at "w"
    refine ⟨z, _, dx, _, rfl, k4.at0 e3, T.cl_Library, T.na_Library__entries, by show 2 < 1000; decide, fun H5 k5 e5 => ?_⟩
    have zE : z ≠ dE := ne_of_none e3 nE
    have RE : dR ≠ dE := ne_of_none hR3 nE
    wtm_at "w"
    have kz : Kp [z] H H3 := (k1.tr0 k2).tr1 k3 (.inl (by simp))
    exact q dR dE H5 ((kz.tr0 k4).tr1 k5 (.inl (by simp))) e5 (k5.at1 (Ne.symm zR) (k4.at0 hR3)) (k5.at1 (Ne.symm zE) hE) RE (k1.n _ nR) (kz.n _ nE)
theorem lib_no (m dR dE : Addr) {x : Str} (h1 : ¬ x = ("mixing" : Str)) (h2 : ¬ x = ("_rows" : Str)) (h3 : ¬ x = ("_entries" : Str)) : (libF m dR dE).lookup x = none := by
  unfold libF; rw [lookup_putF, if_neg h3, lookup_putF, if_neg h2, lookup_putF, if_neg h1]; rfl
end
/-! libP -/
/-! a library's state, whatever its things -/
def lkA : List (Int × Addr × List Int) → Int → Option (Addr × List Int)
  | [], _ => none
  | p :: r, x => if p.1 = x then some p.2 else lkA r x
def kvR (ks : List (Int × Addr × List Int)) : List (Key × V) := ks.map fun k => (.inl k.1, .ref k.2.1)
theorem valV_kvR (x : Int) : ∀ ks : List (Int × Addr × List Int), valV (kvR ks) (.inl x) = (lkA ks x).map fun z => V.ref z.1
  | [] => rfl
  | p :: r => by
    rw [lkA]
    show valV ((Sum.inl p.1, V.ref p.2.1) :: kvR r) (.inl x) = _
    by_cases e : p.1 = x
    · rw [if_pos e, valV_pos (by rw [e])]; rfl
    · rw [if_neg e, valV_neg (fun z => e (Sum.inl.inj z)), valV_kvR x r]
theorem lkA_mem : ∀ {ks : List (Int × Addr × List Int)} {x : Int} {z : Addr × List Int}, lkA ks x = some z → (x, z) ∈ ks
  | [], x, z, h => nomatch h
  | p :: r, x, z, h => by
    rw [lkA] at h
    by_cases e : p.1 = x
    · rw [if_pos e] at h
      have : p = (x, z) := Prod.ext e (Option.some.inj h)
      rw [this]; exact List.mem_cons_self
    · rw [if_neg e] at h
      exact List.mem_cons_of_mem _ (lkA_mem h)
theorem kvR_app (ks : List (Int × Addr × List Int)) (d : Int) (p : Addr) (r : List Int) : kvR (ks ++ [(d, p, r)]) = kvR ks ++ [(.inl d, .ref p)] := by unfold kvR; rw [List.map_append]; rfl
structure LibAt (K : PySem.W.Frag) (CL CM : Addr) (H : Hp) (a dx mx dR dE : Addr) (n f : Int) (ks qs : List (Int × Addr × List Int)) : Prop where
  ha : H a = some (.ins CL dx (libF mx dR dE))
  hx : Mx CM H mx n f
  hR : H dR = some (.dK (kvR ks))
  hE : H dE = some (.dK (kvR qs))
  ne : dR ≠ dE
  rows : ∀ k ∈ ks, SqT K H k.2.1 (k.2.2.map V.int)
  ents : ∀ k ∈ qs, H k.2.1 = some (.lst (k.2.2.map V.int))
  /-- each known head has its entries -/
  both : ∀ x z, lkA ks x = some z → z.2.getD 0 0 = 4 → ∃ c es bs s k h, lkA qs x = some (c, es) ∧ 1 ≤ es.length ∧ es.length ≤ 60 ∧ z.2 = rowH n f s k h es bs
  only : ∀ x, lkA ks x = none → lkA qs x = none
theorem LibAt.kp {K : PySem.W.Frag} {CL CM : Addr} {H H' : Hp} {a dx mx dR dE : Addr} {n f : Int} {ks qs : List (Int × Addr × List Int)} (h : LibAt K CL CM H a dx mx dR dE n f ks qs) (k : Kp [] H H') : LibAt K CL CM H' a dx mx dR dE n f ks qs :=
  ⟨k.at0 h.ha, h.hx.kp k, k.at0 h.hR, k.at0 h.hE, h.ne, fun z m => k.tup (h.rows z m), fun z m => k.at0 (h.ents z m), h.both, h.only⟩
theorem LibAt.draw {K : PySem.W.Frag} {CL CM : Addr} {H H' : Hp} {a dx mx dR dE b r : Addr} {n f : Int} {ks qs : List (Int × Addr × List Int)} (h : LibAt K CL CM H a dx mx dR dE n f ks qs) (bx : Box H b r) (k : Kp [b] H H') : LibAt K CL CM H' a dx mx dR dE n f ks qs :=
  ⟨bx.other k (fun _ e => nomatch e) h.ha, h.hx.box bx k, bx.other k (fun _ e => nomatch e) h.hR, bx.other k (fun _ e => nomatch e) h.hE, h.ne, fun z m => k.tup (h.rows z m), fun z m => k.at1 (bx.neInts (h.ents z m)) (h.ents z m), h.both, h.only⟩
theorem lkA_app {ks : List (Int × Addr × List Int)} {d x : Int} {p : Addr} {r : List Int} (h : lkA ks d = none) : lkA (ks ++ [(d, p, r)]) x = if d = x then some (p, r) else lkA ks x := by
  induction ks with
  | nil => simp [lkA]
  | cons k ks ih =>
    rw [lkA] at h
    rw [List.cons_append, lkA, lkA]
    by_cases e : k.1 = d
    · rw [if_pos e] at h; cases h
    · rw [if_neg e] at h
      rw [ih h]
      by_cases e2 : k.1 = x
      · rw [if_pos e2, if_pos e2, if_neg (fun z => e (e2.trans z.symm))]
      · rw [if_neg e2, if_neg e2]
theorem cut46 (n f s k h : Int) (es bs : List Int) : cutV ((rowH n f s k h es bs).map V.int) (some 4) (some 6) = [.int (es.length : Int), .int (rt n f es)] := by
  unfold cutV
  have l : ((rowH n f s k h es bs).map V.int).length = 6 + bs.length := by rw [List.length_map]; simp [rowH]; omega
  rw [l]
  rw [show HT.sIx (6 + bs.length) 0 (some 4) = 4 by rw [show (4 : Int) = ((4 : Nat) : Int) from rfl, HT.sIx_nat]; omega, show HT.sIx (6 + bs.length) (6 + bs.length) (some 6) = 6 by rw [show (6 : Int) = ((6 : Nat) : Int) from rfl, HT.sIx_nat]; omega]
  rfl
/-! whyP -/
section
local macro_rules | `(tactic| wtm_at "d") => `(tactic| first | ((with_reducible show Z.XE _ (PySem.Expr.Call (PySem.Expr.Name "len" _) (_ :: _) [] _) _ _ _); refine Z.xe_callB (id := "len") (by assumption) (by wtm_at "m") T.b_len (by decide +kernel) ?_) | ((with_reducible show Z.XE _ (PySem.Expr.Name "HEAD" _) _ _ _); refine Z.xe_glob (v := L2.V.int 4) (by assumption) (by wtm_at "m") T.c_HEAD.choose_spec ⟨_, rfl⟩ ?_) | ((with_reducible show Z.XE _ (PySem.Expr.Call (PySem.Expr.Name "kind_of" _) (_ :: _) [] _) _ _ _); refine Z.xe_call (by assumption) (Law.ok_kind_of T) (by wtm_at "m") (by omega) ?_) | ((with_reducible show Z.XE _ (PySem.Expr.Call (PySem.Expr.Name "root_of" _) (_ :: _) [] _) _ _ _); refine Z.xe_call (by assumption) (Law.ok_root_of T) (by wtm_at "m") (by omega) ?_) | fail)
/-! what a library says of a row with entries -/
def fitsB (n f : Int) (rs es : List Int) : Bool := if rs.getD 0 0 = 4 then decide ((es.length : Int) = rs.getD 4 0 ∧ rt n f es = rs.getD 5 0) else decide (es = [])
def rowWhy (n f : Int) (rs es : List Int) : Option Str := if isThing rs = true then (if fitsB n f rs es = true then none else some ("other entries" : Str)) else some ("not a thing" : Str)
theorem hd_rowH {n f : Int} {rs es : List Int} (h : 6 ≤ rs.length) (e0 : rs.getD 0 0 = 4) (e4 : (es.length : Int) = rs.getD 4 0) (e5 : rt n f es = rs.getD 5 0) : ∃ (s k hh : Int) (bs : List Int), rs = rowH n f s k hh es bs := by
  match rs, h with
  | a :: b :: c :: d :: e :: g :: r, _ =>
    refine ⟨b, c, d, r, ?_⟩
    have h0 : a = 4 := e0
    have h4 : (es.length : Int) = e := e4
    have h5 : rt n f es = g := e5
    unfold rowH
    rw [h0, h4, h5]; rfl
def sp_areX (K : PySem.W.Frag) (C : Addr) : Sp := fun vs H Q _ => ∃ (m row e : Addr) (b f : Int) (rs es : List Int), vs = [.ref m, .ref row, .ref e] ∧ Mx C H m b f ∧ SqT K H row (rs.map V.int) ∧ SqL K H e (es.map V.int) ∧ isThing rs = true ∧ es.length ≤ 512 ∧ 0 < b ∧ ∀ H', Kp [] H H' → Q (.bl (fitsB b f rs es)) H'
theorem ok__are_entries (T : Txt P w K mg base) : DefOk P w K mg base "_are_entries" ["mixing", "row", "entries"] 14 (sp_areX K T.C_Mixing) := by
  refine DefOk.by T.d__are_entries sc__are_entries oc__are_entries (fun vs H Q E h => ?_) (fun X e1 e2 e3 e4 e5 C H vs Q E h => ?_)
  · obtain ⟨m, row, e, b, f, rs, es, rfl, _⟩ := h; rfl
  · obtain ⟨m, row, e, b, f, rs, es, rfl, hm, hr, he, th, le, hb, q⟩ := h
    have hp := isThing_pos th
    wtm_at "go"
    wtm_at "w"
    refine ⟨row, _, rfl, hr, hp, ?_⟩
    wtm_at "w"
    refine ite_nd (fun h => ?_) (fun h => ?_)
    · have q' := q H (Kp.refl _ _)
      unfold fitsB at q'
      rw [if_neg h] at q'
      wtm_at "w"
      have ee : (!!(es.map V.int).isEmpty) = decide (es = []) := by cases es <;> simp
      rw [ee]; exact q'
    · obtain ⟨l6, c1, _⟩ := isThing_hd th h
      wtm_at "w"
      refine xs_asg ?_
      wtm_at "w"
      refine vsl_tup hr (fun t H1 k1 ht => ?_)
      have ht' : SqT X.K H1 t [.int (rs.getD 4 0), .int (rs.getD 5 0)] := by
        have e : cutV (rs.map V.int) (some 4) (some 6) = [.int (rs.getD 4 0), .int (rs.getD 5 0)] := cut46g l6
        rw [e] at ht; exact ht
      refine xg_tup C ⟨t, _, rfl, ht', rfl, ?_⟩
      wtm_at "w"
      try refine vc_lenL (k1.lst0 he) ?_
      wtm_at "w"
      rw [List.length_map]
      refine ite_d (fun hc => ?_) (fun hc => ?_)
      · wtm_at "w"
        refine ⟨m, e, b, f, es, rfl, hm.kp k1, k1.lst0 he, by omega, by omega, hb, fun H2 k2 => ?_⟩
        wtm_at "w"
        have q' := q H2 (k1.tr0 k2)
        unfold fitsB at q'
        rw [if_pos h] at q'
        have ee : decide (rt b f es = rs.getD 5 0) = decide ((es.length : Int) = rs.getD 4 0 ∧ rt b f es = rs.getD 5 0) := by apply decide_eq_decide.mpr; exact ⟨fun z => ⟨hc, z⟩, fun z => z.2⟩
        rw [ee]; exact q'
      · have q' := q H1 k1
        unfold fitsB at q'
        rw [if_pos h] at q'
        have ee : decide ((es.length : Int) = rs.getD 4 0) = decide ((es.length : Int) = rs.getD 4 0 ∧ rt b f es = rs.getD 5 0) := by apply decide_eq_decide.mpr; exact ⟨fun z => absurd z hc, fun z => z.1⟩
        rw [ee]; exact q'
theorem ok_ThingError (T : Txt P w K mg base) : ErrOk P w K mg base "ThingError" T.E_ThingError ["self", "reason"] 1 (sp_err1 T.E_ThingError "reason") := by
  obtain ⟨f, fd, iC, tI, F, b⟩ := T.i_ThingError
  refine ⟨f, fd, fnOk_by F sc_ThingError___init__ oc_ThingError___init__ (fun vs H Q E h => ?_) (fun X e1 e2 e3 e4 e5 C H vs Q E h => ?_), T.mg_ThingError, iC, tI, b⟩
  · obtain ⟨a, v, rfl, _⟩ := h; rfl
  · obtain ⟨a, v, rfl, h1, q⟩ := h
    wtm_at "go"
    refine xs_ost ?_
    wtm_at "w"
    refine ⟨a, _, rfl, T.ec_ThingError.ox, T.nf_ThingError_reason, .inl ⟨h1, fun dx hdx ne => ?_⟩⟩
    wtm_at "w"
    exact q dx hdx ne
end
/-! put_x -/
section
local macro_rules | `(tactic| wtm_at "d") => `(tactic| first | ((with_reducible show Z.XE _ (PySem.Expr.Call (PySem.Expr.Name "list" _) (_ :: _) [] _) _ _ _); refine Z.xe_callTy (id := "list") (by assumption) (by wtm_at "m") T.b_list (by decide +kernel) ?_) | ((with_reducible show Z.XE _ (PySem.Expr.Name "list" _) _ _ _); refine Z.xe_ty (id := "list") (by assumption) (by wtm_at "m") T.b_list (by decide +kernel) ?_) | ((with_reducible show Z.XE _ (PySem.Expr.Name "HEAD" _) _ _ _); refine Z.xe_glob (v := L2.V.int 4) (by assumption) (by wtm_at "m") T.c_HEAD.choose_spec ⟨_, rfl⟩ ?_) | ((with_reducible show Z.XE _ (PySem.Expr.Call (PySem.Expr.Name "digest_of" _) (_ :: _) [] _) _ _ _); refine Z.xe_call (by assumption) (Law.ok_digest_of T) (by wtm_at "m") (by omega) ?_) | ((with_reducible show Z.XE _ (PySem.Expr.Call (PySem.Expr.Name "is_thing" _) (_ :: _) [] _) _ _ _); refine Z.xe_call (by assumption) (Law.ok_is_thing T) (by wtm_at "m") (by omega) ?_) | ((with_reducible show Z.XE _ (PySem.Expr.Call (PySem.Expr.Name "kind_of" _) (_ :: _) [] _) _ _ _); refine Z.xe_call (by assumption) (Law.ok_kind_of T) (by wtm_at "m") (by omega) ?_) | ((with_reducible show Z.XE _ (PySem.Expr.Call (PySem.Expr.Name "clash_of_entries" _) (_ :: _) [] _) _ _ _); refine Z.xe_call (by assumption) (Law.ok_clash_of_entries T) (by wtm_at "m") (by omega) ?_) | ((with_reducible show Z.XE _ (PySem.Expr.Call (PySem.Expr.Name "_are_entries" _) (_ :: _) [] _) _ _ _); refine Z.xe_call (by assumption) (Law.ok__are_entries T) (by wtm_at "m") (by omega) ?_) | fail)
def sp_putX (K : PySem.W.Frag) (CL CM CE : Addr) : Sp := fun vs H Q E => ∃ (a row e mx dR dE dx : Addr) (n f : Int) (rs es : List Int) (ks qs : List (Int × Addr × List Int)), vs = [.ref a, .ref row, .ref e] ∧ LibAt K CL CM H a dx mx dR dE n f ks qs ∧ 0 < n ∧ SqT K H row (rs.map V.int) ∧ H e = some (.lst (es.map V.int)) ∧ es.length ≤ 60 ∧ ks.length ≤ 5000 ∧ qs.length ≤ 5000 ∧
  (∀ w, rowWhy n f rs es = some w → ∀ d H', Kp [] H H' → H d = none → H' d = some (.xd [("reason", .str w)]) → E (.ref CE) (some d) H') ∧ (rowWhy n f rs es = none →
  (lkA ks (dig n f rs) = none → ∀ c H', Kp [dR, dE] H H' → (rs.getD 0 0 = 4 → H c = none) → LibAt K CL CM H' a dx mx dR dE n f (ks ++ [(dig n f rs, row, rs)]) (if rs.getD 0 0 = 4 then qs ++ [(dig n f rs, c, es)] else qs) → Q .non H') ∧
  (∀ z, lkA ks (dig n f rs) = some z → z.2 ≠ rs → ∀ p H', Kp [] H H' → SqT K H' p [.ref z.1, .ref row] → Q (.ref p) H') ∧
  (∀ z, lkA ks (dig n f rs) = some z → z.2 = rs → rs.getD 0 0 ≠ 4 → ∀ H', Kp [] H H' → Q .non H') ∧
  (∀ z y, lkA ks (dig n f rs) = some z → z.2 = rs → rs.getD 0 0 = 4 → lkA qs (dig n f rs) = some y → y.2.length = es.length → rt n f y.2 = rt n f es → 1 ≤ es.length → ∀ v H', Kp [] H H' → Dp K H' v (unD (fdiff (nds n f y.2) (nds n f es))) → Q v H'))
theorem ok_put (T : Txt P w K mg base) : MetOkX P w K mg base T.C_Library "put" ["self", "row", "entries"] 16 (sp_putX K T.C_Library T.C_Mixing T.E_ThingError) := by
  obtain ⟨fn, fd, M, F, bi⟩ := T.m_Library_put
  refine ⟨fn, fd, fnOk_byX F sc_Library_put oc_Library_put (fun vs H Q E h => ?_) (fun X e1 e2 e3 e4 e5 C Tp H vs Q E tk h => ?_), M, bi⟩
  · obtain ⟨a, row, e, mx, dR, dE, dx, n, f, rs, es, ks, qs, rfl, _⟩ := h; rfl
  · obtain ⟨a, row, e, mx, dR, dE, dx, n, f, rs, es, ks, qs, rfl, hL, hn, hr, he, l60, lk0, lq0, qE, qA⟩ := h
    wtm_at "go"
    wtm_at "w"
    refine ⟨row, _, rfl, hr, ?_⟩
    have w0 : rowWhy n f rs es = (if isThing rs = true then (if fitsB n f rs es = true then none else some ("other entries" : Str)) else some ("not a thing" : Str)) := rfl
    cases th : isThing rs with
    | false =>
      rw [th] at w0
      wtm_at "w"
      refine xs_raise1 C (ok_ThingError T) T.ec_ThingError tk (by wtm_at "m") (by omega) ?_
      refine xe_str ?_
      exact fun d H' k hd hx => qE "not a thing" w0 d H' k hd hx
    | true =>
    rw [th, if_pos rfl] at w0
    have hpos := isThing_pos th
    wtm_at "w"
    refine xe_fld ?_
    wtm_at "w"
    refine ⟨a, _, dx, _, _, rfl, hL.ha, T.cl_Library, T.na_Library_mixing, lib_m mx dR dE, ?_⟩
    wtm_at "w"
    refine ⟨mx, row, e, n, f, rs, es, rfl, hL.hx, hr, Z.SqL.of' he, th, by omega, hn, fun H1 k1 => ?_⟩
    cases ft : fitsB n f rs es with
    | false =>
      rw [ft] at w0
      wtm_at "w"
      refine xs_raise1 C (ok_ThingError T) T.ec_ThingError tk (by wtm_at "m") (by omega) ?_
      refine xe_str ?_
      exact fun d H' k hd hx => qE "other entries" w0 d H' (k1.tr0 k) (k1.n _ hd) hx
    | true =>
    rw [ft, if_pos rfl] at w0
    obtain ⟨q1, q2, q3, q4⟩ := qA w0
    have hds : rs.getD 0 0 = 4 → ∃ (s k hh : Int) (bs : List Int), rs = rowH n f s k hh es bs ∧ 1 ≤ es.length ∧ es.length ≤ 60 := fun e4 => by
      obtain ⟨l6, c1, _⟩ := isThing_hd th e4
      unfold fitsB at ft
      rw [if_pos e4] at ft
      obtain ⟨f1, f2⟩ := of_decide_eq_true ft
      obtain ⟨s, k, hh, bs, er⟩ := hd_rowH l6 e4 f1 f2
      exact ⟨s, k, hh, bs, er, by omega, l60⟩
    have L1 := hL.kp k1
    have hr1 := k1.tup hr
    have he1 := k1.at0 he
    wtm_at "w"
    refine xe_fld ?_
    wtm_at "w"
    refine ⟨a, _, dx, _, _, rfl, L1.ha, T.cl_Library, T.na_Library_mixing, lib_m mx dR dE, ?_⟩
    wtm_at "w"
    refine ⟨mx, row, n, f, rs, rfl, L1.hx, hr1, hn, ?_⟩
    refine ⟨_, by wtm_at "u", ?_⟩
    refine xb_cons ?_
    refine xs_if ?_
    refine xt_dnotin (by assumption) ?_
    wtm_at "w"
    refine xe_fld ?_
    wtm_at "w"
    refine ⟨a, _, dx, _, _, rfl, L1.ha, T.cl_Library, T.na_Library__rows, lib_r mx dR dE, ?_⟩
    refine ⟨dR, _, rfl, .inl ⟨_, .inl (dig n f rs), .inl L1.hR, rfl, rfl⟩, ?_⟩
    rw [valV_kvR]
    have aR : a ≠ dR := ne_of L1.ha L1.hR (by intro z; cases z)
    have aE : a ≠ dE := ne_of L1.ha L1.hE (by intro z; cases z)
    cases hk : lkA ks (dig n f rs) with
    | none =>
      refine L2.iteT ?_
      refine xb_cons ?_
      refine xs_dput (by assumption) ?_
      wtm_at "w"
      refine xe_fld ?_
      wtm_at "w"
      refine ⟨a, _, dx, _, _, rfl, L1.ha, T.cl_Library, T.na_Library__rows, lib_r mx dR dE, ?_⟩
      wtm_at "w"
      refine ⟨dR, kvR ks, .inl (dig n f rs), rfl, rfl, L1.hR, szl (by unfold kvR; rw [List.length_map]; omega), fun H2 k2 hR2 => ?_⟩
      have vn : valV (kvR ks) (.inl (dig n f rs)) = none := by rw [valV_kvR, hk]; rfl
      rw [putK_new _ vn, ← kvR_app] at hR2
      have ha2 := k2.at1 aR L1.ha
      have hE2 := k2.at1 (Ne.symm L1.ne) L1.hE
      have hr2 := k2.tup hr1
      have he2 := k2.at1 (ne_of he1 L1.hR (by intro z; cases z)) he1
      wtm_at "w"
      refine ⟨row, _, rfl, hr2, hpos, ?_⟩
      wtm_at "w"
      obtain ⟨dm, hm1⟩ := L1.hx
      have hm2 := k2.at1 (ne_of hm1 L1.hR (by intro z; cases z)) hm1
      have eR2 : ∀ z ∈ qs, H2 z.2.1 = some (.lst (z.2.2.map V.int)) := fun z m => k2.at1 (ne_of (L1.ents z m) L1.hR (by intro z; cases z)) (L1.ents z m)
      have rows2 : ∀ k ∈ ks ++ [(dig n f rs, row, rs)], SqT X.K H2 k.2.1 (k.2.2.map V.int) := by
        intro k m
        rcases List.mem_append.mp m with z | z
        · exact k2.tup (L1.rows k z)
        · rw [List.mem_singleton.mp z]; exact hr2
      refine ite_d (fun h4 => ?_) (fun h4 => ?_)
      · refine xb_cons ?_
        refine xs_dput (by assumption) ?_
        wtm_at "w"
        refine vc_listL (Z.SqL.of' he2) (fun c H3 k3 nc hc => ?_)
        wtm_at "w"
        refine xe_fld ?_
        wtm_at "w"
        have ha3 := k3.at0 ha2
        have hE3 := k3.at0 hE2
        refine ⟨a, _, dx, _, _, rfl, ha3, T.cl_Library, T.na_Library__entries, lib_e mx dR dE, ?_⟩
        wtm_at "w"
        refine ⟨dE, kvR qs, .inl (dig n f rs), rfl, rfl, hE3, szl (by unfold kvR; rw [List.length_map]; omega), fun H4 k4 hE4 => ?_⟩
        have vq : valV (kvR qs) (.inl (dig n f rs)) = none := by rw [valV_kvR, hL.only _ hk]; rfl
        rw [putK_new _ vq, ← kvR_app] at hE4
        wtm_at "w"
        have cE : c ≠ dE := (ne_of_none hE2 nc).symm
        have kk : Kp [dR, dE] H H4 := (((Kp.refl [dR, dE] H).tr0 k1).tr1 k2 (.inl (by simp))).tr0 k3 |>.tr1 k4 (.inl (by simp))
        refine q1 hk c H4 kk (fun _ => k1.n _ (k2.n _ nc)) ?_
        rw [if_pos h4]
        refine ⟨k4.at1 aE ha3, ⟨dm, k4.at1 (ne_of (k3.at0 hm2) hE3 (by intro z; cases z)) (k3.at0 hm2)⟩, k4.at1 L1.ne (k3.at0 hR2), hE4, L1.ne, fun k m => k4.tup (k3.tup (rows2 k m)), ?_, ?_, ?_⟩
        · intro k m
          rcases List.mem_append.mp m with z | z
          · have g3 := k3.at0 (eR2 k z)
            exact k4.at1 (ne_of g3 hE3 (by intro z; cases z)) g3
          · rw [List.mem_singleton.mp z]; exact k4.at1 cE hc
        · intro x z hz h4z
          rw [lkA_app hk] at hz
          rw [lkA_app (hL.only _ hk)]
          by_cases ex : dig n f rs = x
          · rw [if_pos ex] at hz ⊢
            obtain ⟨s, k, hh, bs, er, l1, l5⟩ := hds h4
            have : z = (row, rs) := (Option.some.inj hz).symm
            subst this
            exact ⟨c, es, bs, s, k, hh, rfl, l1, l5, er⟩
          · rw [if_neg ex] at hz ⊢
            exact hL.both x z hz h4z
        · intro x hx
          rw [lkA_app hk] at hx
          rw [lkA_app (hL.only _ hk)]
          by_cases ex : dig n f rs = x
          · rw [if_pos ex] at hx; cases hx
          · rw [if_neg ex] at hx ⊢
            exact hL.only x hx
      · wtm_at "w"
        have kk : Kp [dR, dE] H H2 := ((Kp.refl [dR, dE] H).tr0 k1).tr1 k2 (.inl (by simp))
        refine q1 hk row H2 kk (fun z => absurd z h4) ?_
        rw [if_neg h4]
        refine ⟨ha2, ⟨dm, hm2⟩, hR2, hE2, L1.ne, rows2, eR2, ?_, ?_⟩
        · intro x z hz h4z
          rw [lkA_app hk] at hz
          by_cases ex : dig n f rs = x
          · rw [if_pos ex] at hz
            have : z = (row, rs) := (Option.some.inj hz).symm
            subst this
            exact absurd h4z h4
          · rw [if_neg ex] at hz
            exact hL.both x z hz h4z
        · intro x hx
          rw [lkA_app hk] at hx
          by_cases ex : dig n f rs = x
          · rw [if_pos ex] at hx; cases hx
          · rw [if_neg ex] at hx
            exact hL.only x hx
    | some z =>
      refine L2.iteF ?_
      refine xb_nil ?_
      refine xb_cons ?_
      refine xs_set (by assumption) ?_ (hx := by wtm_at "m") (hl := by wtm_at "m")
      refine xe_dget (by assumption) ?_
      refine xe_fld ?_
      wtm_at "w"
      refine ⟨a, _, dx, _, _, rfl, L1.ha, T.cl_Library, T.na_Library__rows, lib_r mx dR dE, ?_⟩
      wtm_at "w"
      refine ⟨dR, .ref z.1, rfl, .inl ⟨_, .inl (dig n f rs), .inl L1.hR, rfl, by rw [valV_kvR, hk]; rfl⟩, ?_⟩
      have hz1 := L1.rows _ (lkA_mem hk)
      wtm_at "w"
      refine vo_neT C (ns := z.2) (ms := rs) hz1 hr1 ?_
      wtm_at "w"
      refine ite_nd (fun h => ?_) (fun h => ?_)
      · wtm_at "w"
        intro p H2 k2 hp _
        exact q2 z hk h p H2 (k1.tr0 k2) hp
      · wtm_at "w"
        refine ⟨row, _, rfl, hr1, hpos, ?_⟩
        wtm_at "w"
        refine ite_d (fun h4 => ?_) (fun h4 => ?_)
        · obtain ⟨c, es0, bs, s, k, hh, hq, l1, l5, ez⟩ := hL.both _ z hk (by rw [h]; exact h4)
          obtain ⟨s', k', hh', bs', er, m1, m5⟩ := hds h4
          have hc1 := L1.ents _ (lkA_mem hq)
          have ee : rowH n f s k hh es0 bs = rowH n f s' k' hh' es bs' := by rw [← ez, ← er]; exact h
          have el : es0.length = es.length ∧ rt n f es0 = rt n f es := by
            unfold rowH at ee
            simp at ee
            omega
          wtm_at "w"
          refine xe_fld ?_
          wtm_at "w"
          refine ⟨a, _, dx, _, _, rfl, L1.ha, T.cl_Library, T.na_Library_mixing, lib_m mx dR dE, ?_⟩
          wtm_at "w"
          refine xe_fld ?_
          wtm_at "w"
          refine ⟨a, _, dx, _, _, rfl, L1.ha, T.cl_Library, T.na_Library__entries, lib_e mx dR dE, ?_⟩
          wtm_at "w"
          refine vx_dict (by assumption) (v := .ref c) (.inl ⟨_, .inl (dig n f rs), .inl L1.hE, rfl, by rw [valV_kvR, hq]; rfl⟩) ?_
          wtm_at "w"
          exact ⟨mx, c, e, n, f, es0, es, rfl, L1.hx, Z.SqL.of' hc1, Z.SqL.of' he1, by omega, by omega, el.1, hn, fun v H2 k2 hv => q4 z (c, es0) hk h h4 hq el.1 el.2 m1 v H2 (k1.tr0 k2) hv⟩
        · wtm_at "w"
          exact q3 z hk h h4 H1 k1
end
/-! lc2 -/
/-! [.. for x, y in a list of pairs] -/
section
variable {X : Cx} {σ σ' : St} {H : Hp} {Q : VK} {N Vs Ls G Vs' G' : List Str} {k i j kt : Nat} {sc scope : Scope} {elt iter : Expr} {ifs : List Expr} {p1 p2 p3 pos : Pos} {nm nm2 : Str}
def gTwo (K : PySem.W.Frag) (i j : Nat) : TG := fun v σ H Q => ∃ (p : Addr) (x y : V), v = .ref p ∧ SqT K H p [x, y] ∧ Q ((σ.set i (some x)).set j (some y)) H
structure LcOk2 (sc scope : Scope) (N Vs' G' : List Str) (nm nm2 : Str) (i j : Nat) (ifs : List Expr) : Prop where
  hN : N[i]? = some nm
  hN2 : N[j]? = some nm2
  ne : i ≠ j
  blk : blkC N sc scope [(nm, i), (nm2, j)] = true
  rd : okC (relS scope sc) Vs' [] G' = true
  knd : scope.kind = .function
  own : (relS scope sc).names.lookup nm = some .local
  own2 : (relS scope sc).names.lookup nm2 = some .local
  one : ifs.length ≤ 1
theorem pg_two (C : Ctx X sc N Vs Ls G k) (O : LcOk2 sc scope N Vs' G' nm nm2 i j ifs) {s0 : Shared} {H0 : Hp} {c : Addr} {cl : List (Str × Addr)} {fp : List Addr} : PG (X.blk s0 H0 scope (compEnvC scope cl c X.env) fp) (.Tuple [.Name nm p1, .Name nm2 p2] kt p3) (gTwo X.K i j) := by
  refine ⟨fun pins s σ H v u Q I r ⟨p, x, y, e, ht, q⟩ => ?_⟩
  exact (pg_tup (X := X.blk s0 H0 scope (compEnvC scope cl c X.env) fp) (n := 2) C.calm (pgs_cons (pg_blk C O.hN O.own) (pgs_cons (pg_blk C O.hN2 O.own2) pgs_nil))).run pins s σ H v u Q I r ⟨p, [x, y], e, ht, rfl, x, [y], rfl, y, [], rfl, rfl, q⟩
/-- one turn: both names stored, the test, the element -/
def XTurn2 (X : Cx) (sc scope : Scope) (N Vs' G' : List Str) (k : Nat) (nm nm2 : Str) (ifs : List Expr) (elt : Expr) (σ : St) (v : V) (H : Hp) (L : Addr) (Nx : Hp → Prop) : Prop :=
  ∃ (p : Addr) (x y : V) (σ1 σ2 : St), v = .ref p ∧ SqT X.K H p [x, y] ∧ Put N σ nm x σ1 ∧ Put N σ1 nm2 y σ2 ∧
    match ifs with
    | [] => XEC X sc scope N Vs' G' k elt σ2 H fun z H4 => ∃ acc, H4 L = some (.lst acc) ∧ acc.length < sizeLine ∧ ∀ H5, Kp [L] H4 H5 → H5 L = some (.lst (acc ++ [z])) → Nx H5
    | c' :: _ => XTC X sc scope N Vs' G' k c' σ2 H fun b H3 => if b = true then XEC X sc scope N Vs' G' k elt σ2 H3 (fun z H4 => ∃ acc, H4 L = some (.lst acc) ∧ acc.length < sizeLine ∧ ∀ H5, Kp [L] H4 H5 → H5 L = some (.lst (acc ++ [z])) → Nx H5) else Nx H3
theorem turn_ok2 (C : Ctx X sc N Vs Ls G k) (O : LcOk2 sc scope N Vs' G' nm nm2 i j ifs) {v : V} {L : Addr} {Nx : Hp → Prop} (h : XTurn2 X sc scope N Vs' G' k nm nm2 ifs elt σ v H L Nx) :
    gTwo X.K i j v (wipe σ [i, j]) H fun σ2 H2 => wipe σ2 [i, j] = wipe σ [i, j] ∧ ttC X scope ifs σ2 H2 fun b H3 => if b = true then teC X scope elt σ2 H3 (fun y H4 => ∃ acc, H4 L = some (.lst acc) ∧ acc.length < sizeLine ∧ Nx (upd H4 L (.lst (acc ++ [y])))) else Nx H3 := by
  obtain ⟨p, x, y, σ1, σ2, e, ht, q1, q2, h⟩ := h
  obtain ⟨i', hi', e1⟩ := q1.ix
  obtain ⟨j', hj', e2⟩ := q2.ix
  have ei : i = i' := nd_ix C.nd O.hN hi'
  have ej : j = j' := nd_ix C.nd O.hN2 hj'
  subst ei; subst ej
  have ne := O.ne
  have w1 : ((wipe σ [i, j]).set i (some x)).set j (some y) = σ2 := by
    rw [← e2, ← e1]
    show (((σ.set j none).set i none).set i (some x)).set j (some y) = _
    rw [List.set_set, List.set_comm none (some x) (Ne.symm ne), List.set_set]
  refine ⟨p, x, y, e, ht, ?_⟩
  rw [w1]
  refine ⟨?_, ?_⟩
  · rw [← e2, ← e1]
    show ((((σ.set i (some x)).set j (some y)).set j none).set i none) = (σ.set j none).set i none
    rw [List.set_set, List.set_comm (some x) none ne, List.set_set]
  have fin : ∀ H3, XEC X sc scope N Vs' G' k elt σ2 H3 (fun z H4 => ∃ acc, H4 L = some (.lst acc) ∧ acc.length < sizeLine ∧ ∀ H5, Kp [L] H4 H5 → H5 L = some (.lst (acc ++ [z])) → Nx H5) →
      teC X scope elt σ2 H3 (fun y H4 => ∃ acc, H4 L = some (.lst acc) ∧ acc.length < sizeLine ∧ Nx (upd H4 L (.lst (acc ++ [y])))) := fun H3 h s0 H0 c cl fp =>
    (h s0 H0 c cl fp (blk_ctx C O.rd O.knd)).mono fun v H4 ⟨acc, h1, h2, h3⟩ => ⟨acc, h1, h2, h3 _ (Kp.set h1 rfl) upd_same⟩
  cases ifs with
  | nil => exact iteT (B := Nx H) (fin H h)
  | cons c' r =>
    intro s0 H0 c cl fp
    refine (h s0 H0 c cl fp (blk_ctx C O.rd O.knd)).mono fun b H3 q => ?_
    cases b with
    | false => exact q
    | true => exact fin H3 q
theorem xlc_L2 (C : Ctx X sc N Vs Ls G k) (O : LcOk2 sc scope N Vs' G' nm nm2 i j ifs)
    (h : XE X iter σ H fun v H1 => ∃ a xs, v = .ref a ∧ SqL X.K H1 a xs ∧ ∀ L H2, Kp [] H1 H2 → H1 L = none → H2 L = some (.lst []) → ∃ Pv : Nat → Hp → Prop, Pv 0 H2 ∧ (∀ t H', t ≤ xs.length → Pv t H' → SqL X.K H' a xs) ∧
      (∀ t y H', xs[t]? = some y → Pv t H' → XTurn2 X sc scope N Vs' G' k nm nm2 ifs elt σ y H' L (Pv (t + 1))) ∧ ∀ H', Pv xs.length H' → Q (.ref L) H') : XLC X elt (.Tuple [.Name nm p1, .Name nm2 p2] kt p3) iter ifs scope σ H Q := by
  refine ⟨_, gTwo X.K i j, ttC X scope ifs, teC X scope elt, [(nm, i), (nm2, j)], pi_list XE.pe, blkOk_by (by rw [C.hN, C.esc]; exact O.blk), fun _ _ _ _ _ => pg_two C O, fun _ _ _ _ _ => pts_blk O.one, fun _ _ _ _ _ => pe_blk,
    fun σ H R R' m h => h.mono fun v H1 ⟨a, e, h1, q⟩ => ⟨a, e, h1, m _ _ q⟩, ?_⟩
  refine h.mono fun v H1 ⟨a, xs, e, hx, h⟩ => ⟨a, e, ⟨xs, hx⟩, fun L hL => ?_⟩
  obtain ⟨Pv, h0, hl, hs, hd⟩ := h L _ (Kp.new hL) hL upd_same
  exact lc_list (K := X.K) (a := a) (xs := xs) Pv h0 hl (fun t y H' ht p => turn_ok2 C O (hs t y H' ht p)) hd
end
/-! enumS -/
/-! for i, x in enumerate(a list, start=k) -/
section
open PyProof.Rows
theorem callWith_tyKw {M : Model} {A : Around} {E : Value → Shared → Prop} {s : Shared} {env : Env} {pos : Pos} {T : String} {e : Expr} {rest : List Expr} {kws : List Keyword} {Q : Value → Shared → Prop}
    (h : wpAny M A (spliced (backTo pos (starEach (e :: rest) env))) (fun vs s₁ => wpAny M A (evalAll ((backToKw pos (keywordEach kws env)).map (·.2)))
      (fun kvs s₂ => wpAny M A (call (.type T) vs (((backToKw pos (keywordEach kws env)).filterMap (·.1)).zip kvs)) Q E s₂) E s₁) E s)
    (he : backTo pos (starEach (e :: rest) env) = (false, eval e env) :: backTo pos (starEach rest env) := by rfl)
    (hplain : (backTo pos (starEach (e :: rest) env)).any (·.1) = false := by rfl)
    (hall : (backToKw pos (keywordEach kws env)).all (·.1.isSome) = true := by rfl)
    (hkw : (backToKw pos (keywordEach kws env)).any (·.1.isNone) = false := by rfl) :
    wpAny M A (callWith pos (.type T) [] (backTo pos (starEach (e :: rest) env)) (backToKw pos (keywordEach kws env))) Q E s := by
  have h2 : wpAny M A (evalArgs (.type T) true (backTo pos (starEach (e :: rest) env)) (backToKw pos (keywordEach kws env))) (fun a s₁ => wpAny M A (call (.type T) ([] ++ a.pos) a.kw) Q E s₁) E s := by
    rw [he] at h ⊢
    exact evalArgs_kwB hall h
  unfold callWith
  refine wpAny_bind (wpAny_holding (wpAny_mono h2 (fun a s₁ h₁ => wpAny_bind (wpAny_standAt ?_)) fun _ _ x => x))
  simp only [hplain, hkw, Bool.or_false]
  refine wpAny_bind (wpAny_pure ?_)
  exact wpAny_bind (wpAny_mono h₁ (fun r s₂ hr => wpAny_bind (wpAny_holding (wpAny_point (wpAny_pure hr)))) fun _ _ x => x)
/-- the list at a, each item in a new pair with its number from k0 on -/
def IteS (K : PySem.W.Frag) (a : Addr) (k0 : Int) : It :=
  ⟨fun i H => ∃ (xs : List V) (x : V), SqL K H a xs ∧ xs[i]? = some x, fun i H v H' => ∃ T x, v = .ref T ∧ H T = none ∧ H' = upd H T (.tup [.int (k0 + (i : Int)), x]) ∧ ∀ xs, SqL K H a xs → xs[i]? = some x, fun i H => ∃ xs : List V, SqL K H a xs ∧ xs.length = i⟩
theorem turn_enumS {P : Program} {w : World} {K : PySem.W.Frag} {elts : List Expr} {kk : Nat} {tpos : Pos} (a e it : Addr) (k0 : Int) (n1 : a ≠ it) (n2 : e ≠ it) (n3 : e ≠ a) :
    Turn P w K (.Tuple elts kk tpos) (IteS K a k0) [e, it] e (fun i h => (∃ old, IsEnum h e it (k0 + (i : Int)) old) ∧ h.IsListIter it a i) where
  mem := by simp
  obj := fun i h st b hb => by
    obtain ⟨⟨old, he⟩, ⟨o, ho, hc, hd⟩⟩ := st
    have e' : b = e ∨ b = it := by simpa using hb
    rcases e' with z | z
    · rw [z]; exact ⟨_, he, fun v q => nomatch q⟩
    · rw [z]; exact ⟨o, ho, fun v q => by rw [hd] at q; cases q⟩
  keep := fun i h h' st k => let ⟨⟨old, he⟩, hi⟩ := st; ⟨⟨old, k e (by simp) _ he⟩, hi.at fun o q => k it (by simp) o q⟩
  item := by
    rintro X rfl rfl rfl hc i pins s σ H E I hf ⟨⟨old, he⟩, hit⟩ ⟨xs, x, lx, ex⟩
    have ⟨its, rv, p, _⟩ := I.list lx
    have ⟨u, hu, ru⟩ := rv.get ex
    have D1 := Draws.list (prog := X.prog) (w := X.w) (A := X.A.in1) (I.ok.hd hc) it a n1 its.toArray
    have W := GoesN.enumFrom (elts := elts) (x1 := kk) (pos := tpos) k0 D1 e n2 (by simp [n2, n3]) (by simp)
    have b1 : i < its.length := (List.getElem?_eq_some_iff.1 hu).1
    refine W.goes i s (fun v s2 => ∃ x H', Inv X pins σ H' s2 ∧ RelV x v ∧ (IteS X.K a k0).yld i H x H' ∧ ((∃ old, IsEnum s2.heap e it (k0 + ((i + 1 : Nat) : Int)) old) ∧ s2.heap.IsListIter it a (i + 1)) ∧ ∀ b ∈ [e, it], H' b = none) E (by simpa using b1) ⟨⟨old, he⟩, hit, p.isList⟩ ?_
    rintro v h' tk ⟨T, t1, v1, rfl, hn, hv1, hT⟩ ⟨r1, r2, _⟩ hk _
    have c1 : v1 = u := by simpa [hu] using hv1.symm
    subst c1
    have new : ObjOk X.prog X.w (upd H T (.tup [.int (k0 + (i : Int)), x])) h' T (.tup [.int (k0 + (i : Int)), x]) := ⟨by show 2 ≤ sizeLine; decide, [.int (k0 + (i : Int)) t1, v1], .cons ⟨_, rfl⟩ (.cons ru .nil), hT⟩
    refine ⟨.ref T, _, I.turnedNew (t' := tk) (ch := [e, it]) (fun c o hb q => hk c o hb q) (fun c hm => hf c hm) hn new, rfl, ⟨T, x, rfl, I.hok.fresh hn, rfl, fun l hl => I.list_inj hl lx ▸ ex⟩, ⟨r1, r2⟩, fun c hm => ?_⟩
    have hl : c < s.heap.objs.size := by
      obtain ⟨o2, q2, _⟩ := hit
      simp only [List.mem_cons, List.not_mem_nil, or_false] at hm
      rcases hm with rfl | rfl
      · exact Heap.lt_size he
      · exact Heap.lt_size q2
    exact (upd_ne (Nat.ne_of_lt (Nat.lt_of_lt_of_le hl hn))).trans (hf c hm).1
  done := by
    rintro X rfl rfl rfl hc i pins s σ H E I hf ⟨⟨old, he⟩, hit⟩ ⟨xs, lx, ex⟩
    have ⟨its, rv, p, _⟩ := I.list lx
    have D1 := Draws.list (prog := X.prog) (w := X.w) (A := X.A.in1) (I.ok.hd hc) it a n1 its.toArray
    have W := GoesN.enumFrom (elts := elts) (x1 := kk) (pos := tpos) k0 D1 e n2 (by simp [n2, n3]) (by simp)
    have hi : its.toArray.size = i := by
      have l1 := rv.length
      simp; omega
    refine W.stops s (fun s1 => Inv X pins σ H s1) E (by rw [hi]; exact ⟨⟨old, he⟩, hit, p.isList⟩) ?_
    intro h' tk hk _
    exact I.turnedL (t' := tk) (ch := [e, it]) (fun c o hb q => hk c o hb q) fun c hm => hf c hm
  self := fun A i s Q E st h => let ⟨⟨_, he⟩, _⟩ := st; wpAny_pyIter_enum he h
def iEnumS (K : PySem.W.Frag) (k0 : Int) (ta : TA) : TI := fun σ H R => ta σ H fun vs H1 => ∃ a xs, vs = [.ref a] ∧ SqL K H1 a xs ∧ R (IteS K a k0) H1
theorem pi_enumS {X : Cx} {e : Expr} {ta : TA} {p pos tpos cpos kpos : Pos} {elts : List Expr} {kk j : Nat} {k0 : Int} (hk0 : -(2 ^ 63) ≤ k0) (hk1 : k0 < 2 ^ 63) (hg : Gl X "enumerate") (hm : X.mg "enumerate" = none) (ha : PA X [e] ta) (hst : starEach [e] X.env = [(false, eval e X.env)] := by rfl) :
    PI X (.Tuple elts kk tpos) (.Call (.Name "enumerate" p) [e] [⟨some "start", .Constant (.int k0) j cpos, kpos⟩] pos) (iEnumS X.K k0 ta) where
  run := by
    intro pins s σ H R I h
    refine wpAny_Call_Name_kw (ld_blt I hg hm PyProof.Rows.boot_enumerate ?_)
    refine callWith_tyKw (he := by rw [hst]; rfl) (hplain := by rw [hst]; rfl) (thn (ha.run pos pins s σ H _ I h) ?_)
    rintro us s1 ⟨vs, H1, I1, r1, a, xs, rfl, lx, q⟩
    refine thn ((pk_cons (X := X) (nm := some "start") (kpos := kpos) (pe_int (X := X) (i := k0) (j := j) (pos := cpos)) pk_nil).run pos pins s1 σ H1 (fun zs H2 => zs = [.int k0] ∧ H2 = H1) I1 ⟨rfl, rfl⟩) ?_
    rintro ws s2 ⟨zs, H2, I2, r2, rfl, rfl⟩
    match us, r1, ws, r2 with
    | [_], .cons r .nil, [_], .cons rk .nil =>
      cases r
      obtain ⟨tk0, rfl⟩ := rk
      have ⟨its, _, p1, _⟩ := I2.list lx
      have la : a < s2.heap.objs.size := p1.lt
      show wpAny _ _ (call (.type "enumerate") [.ref a] [(Str.ofString "start", .int k0 tk0)]) _ _ _
      refine enum_begins_start (begins_list a its.toArray) p1.isList hk0 hk1 fun h' q1 q2 _ hk => wpAny_pyIter_enum q1 ?_
      refine ⟨_, [s2.heap.objs.size + 1, s2.heap.objs.size], _, _, H2, rfl, I2.kept (t' := s2.toks) hk, turn_enumS a _ _ k0 (Nat.ne_of_lt la) (Nat.succ_ne_self _) (Nat.ne_of_gt (Nat.lt_succ_of_lt la)), ⟨⟨.none, by simpa using q1⟩, ⟨_, q2, rfl, rfl⟩⟩, fun c hm => ?_, q⟩
      have hl : s2.heap.objs.size ≤ c := by
        simp only [List.mem_cons, List.not_mem_nil, or_false] at hm
        rcases hm with rfl | rfl <;> first | exact Nat.le_refl _ | exact Nat.le_add_right _ _
      exact I2.fpOk hl (I2.hok.fresh hl)
end
theorem for_enumS {K : PySem.W.Frag} {a : Addr} {k0 : Int} {xs : List V} {g : TG} {tb : TS} {D : Ends} {σ : L2.St} {H : Hp} (Pv : Nat → L2.St → Hp → Prop) (h0 : Pv 0 σ H) (hq : ∀ i σ H, i ≤ xs.length → Pv i σ H → SqL K H a xs)
    (hs : ∀ (i : Nat) (x : V) (T : Addr) (σ : L2.St) (H : Hp), xs[i]? = some x → Pv i σ H → H T = none → g (.ref T) σ (upd H T (.tup [.int (k0 + (i : Int)), x])) fun σ2 H2 => tb ⟨Pv (i + 1), D.rt, D.nx, Pv (i + 1)⟩ σ2 H2) (hd : ∀ σ H, Pv xs.length σ H → D.nx σ H) :
    ∃ W : Nat → Nat → L2.St → Hp → Prop, (∃ m, W 0 m σ H) ∧ ∀ i m σ H, W i m σ H →
      ((IteS K a k0).stop i H ∧ D.nx σ H) ∨ ((IteS K a k0).go i H ∧ ∃ N : L2.St → Hp → Prop, (∀ σ' H', N σ' H' → ∃ m', m' < m ∧ W (i + 1) m' σ' H') ∧ ∀ v H', (IteS K a k0).yld i H v H' → g v σ H' fun σ2 H2 => tb { D with nx := N, ct := N, bk := D.nx } σ2 H2) := by
  refine ⟨fun i m σ H => i ≤ xs.length ∧ m + i = xs.length ∧ Pv i σ H, ⟨_, Nat.zero_le _, rfl, h0⟩, ?_⟩
  rintro i m σ H ⟨hi, hm, p⟩
  have qx := hq i σ H hi p
  rcases Nat.lt_or_ge i xs.length with lt | ge
  · have ex := List.getElem?_eq_getElem lt
    refine .inr ⟨⟨xs, _, qx, ex⟩, Pv (i + 1), fun σ' H' p' => ⟨m - 1, by omega, lt, by omega, p'⟩, ?_⟩
    rintro v H' ⟨T, x', rfl, hT, rfl, f1⟩
    exact hs i x' T σ H (f1 _ qx) p hT
  · obtain rfl : i = xs.length := Nat.le_antisymm hi ge
    exact .inl ⟨⟨xs, qx, rfl⟩, hd σ H p⟩
section
variable {X : Cx} {σ : St} {H : Hp} {N Vs Ls G : List Str} {k : Nat} {sc : Scope} {e : Expr} {pos p2 tpos p cpos kpos : Pos} {nx : St → Hp → Prop} {D : B3} {body : List Stmt} {elts : List Expr} {kk j : Nat} {k0 : Int}
theorem xs_forES (C : Ctx X sc N Vs Ls G k) (hk0 : -(2 ^ 63) ≤ k0) (hk1 : k0 < 2 ^ 63) (hg : Mem G "enumerate") (hm : X.mg "enumerate" = none) (h : XA X [e] σ H fun vs H1 => ∃ a xs, vs = [.ref a] ∧ SqL X.K H1 a xs ∧ ∃ Pv : Nat → St → Hp → Prop, Pv 0 σ H1 ∧
    (∀ i σ' H', i ≤ xs.length → Pv i σ' H' → SqL X.K H' a xs) ∧ (∀ i x T σ' H' H2, xs[i]? = some x → Pv i σ' H' → Kp [] H' H2 → SqT X.K H2 T [.int (k0 + (i : Int)), x] → XG X (.Tuple elts kk tpos) (.ref T) σ' H2 fun σ3 H3 => XB X body (Pv (i + 1)) ⟨D.rt, nx, Pv (i + 1)⟩ σ3 H3) ∧ ∀ σ' H', Pv xs.length σ' H' → nx σ' H')
    (hst : starEach [e] X.env = [(false, eval e X.env)] := by rfl) (hfs : ∀ x, foldedSetIterable (.Call (.Name "enumerate" p) [e] [⟨some "start", .Constant (.int k0) j cpos, kpos⟩] p2) X.env x = pure x := by intro _; rfl) : XS X (.For (.Tuple elts kk tpos) (.Call (.Name "enumerate" p) [e] [⟨some "start", .Constant (.int k0) j cpos, kpos⟩] p2) body [] pos) nx D σ H := by
  refine ⟨_, ps_for C.po C.calm (pi_enumS hk0 hk1 (C.gl hg) hm XA.pa hst) XG.pg XB.ps hfs, ?_⟩
  refine XA.mono h fun vs H1 ⟨a, xs, e, hx, Pv, h0, hq, hs, hd⟩ => ⟨a, xs, e, hx, ?_⟩
  exact for_enumS (K := X.K) (a := a) (k0 := k0) (xs := xs) (D := ⟨nx, D.rt, D.bk, D.ct⟩) (g := XG X (.Tuple elts kk tpos)) (tb := fun D σ H => XB X body D.nx ⟨D.rt, D.bk, D.ct⟩ σ H) Pv h0 hq
    (fun i x T σ H hx hp hT => hs i x T σ H _ hx hp (Kp.new hT) (.inl (.inl upd_same))) hd
end
/-! enumT -/
/-! enumerate of a tuple or of a list, without a start -/
section
open PyProof.Rows
set_option maxHeartbeats 4000000 in
theorem meets_enumerate_new1 {v : Value} {o : Obj} {H : Heap → Prop} (B : Begins v o H) :
    Meets (Builtin.«enumerate.__new__» ⟨[.type "enumerate", v], []⟩) (fun _ R s => H s.heap ∧
      R (.ok (.ret (.ref (s.heap.push o).objs.size))) { s with heap := (s.heap.push o).push { cls := .type "enumerate", data := .fields #[.none, .bool false, .ref s.heap.objs.size, rawInt 0, .none, .none] } }) :=
  .of_wp fun prog w A R s h => by
    obtain ⟨hp, g, d, tk, os⟩ := s; obtain ⟨h1, h⟩ := h
    have hsub := sub_enumerate
    have q1 : ∀ {A' : Around} {E : Value → Shared → Prop} {Q : Value → Shared → Prop}, Q (.ref hp.objs.size) ⟨hp.push o, g, d, tk, os⟩ → wpAny (model prog w) A' (pyIter v) Q E ⟨hp, g, d, tk, os⟩ :=
      fun q => B.iter prog w _ _ ⟨hp, g, d, tk, os⟩ _ h1 q
    wp_walk using q1
    refine wpAny_stack_any fun st => wpAny_pure ?_
    split
    · rename_i c _ _ _ _ _
      cases (c == Value.type "enumerate")
      · wp_walk using q1
        exact ⟨_, rfl, h⟩
      · wp_walk using q1
        exact ⟨_, rfl, h⟩
    · wp_walk using q1
      exact ⟨_, rfl, h⟩
theorem enum_begins1 {prog : Program} {w : World} {A : Around} {E : Value → Shared → Prop} {s : Shared} {v : Value} {o : Obj} {H : Heap → Prop} {Q : Value → Shared → Prop} (B : Begins v o H) (h1 : H s.heap)
    (h : ∀ h', IsEnum h' (s.heap.objs.size + 1) s.heap.objs.size 0 .none → h'.get? s.heap.objs.size = some o → h'.objs.size = s.heap.objs.size + 2 →
      (∀ b o, s.heap.get? b = some o → h'.get? b = some o) → Q (.ref (s.heap.objs.size + 1)) { s with heap := h' }) :
    wpAny (model prog w) A (call (.type "enumerate") [v]) Q E s := by
  refine callType_new F.called_enumerate (by decide) (F.typeCall_enumerate_1 _) (F.newCall_enumerate_1 _) (fun obj => F.args_object_init_2 obj _) F.entry_enumerate_new
    (meets_enumerate_new1 B) ⟨h1, ?_⟩
  have hz : (s.heap.push o).objs.size = s.heap.objs.size + 1 := Heap.size_push ..
  show _ ∧ _
  rw [hz]
  have he : IsEnum ((s.heap.push o).push { cls := .type "enumerate", data := .fields #[.none, .bool false, .ref s.heap.objs.size, rawInt 0, .none, .none] }) (s.heap.objs.size + 1) s.heap.objs.size 0 .none := by
    have := Heap.get?_push_size (s.heap.push o) (o := { cls := .type "enumerate", data := .fields #[.none, .bool false, .ref s.heap.objs.size, rawInt 0, .none, .none] }) rfl
    rw [hz] at this; exact this
  refine ⟨⟨_, he, rfl⟩, h _ he (Heap.get?_push_of_some _ (Heap.get?_push_size _ B.free)) (by rw [Heap.size_push, hz]) fun b o x => Heap.get?_push_of_some _ (Heap.get?_push_of_some _ x)⟩
/-- the tuple at a, each item in a new pair with its number -/
def IteT (K : PySem.W.Frag) (a : Addr) : It :=
  ⟨fun i H => ∃ (xs : List V) (x : V), SqT K H a xs ∧ xs[i]? = some x, fun i H v H' => ∃ T x, v = .ref T ∧ H T = none ∧ H' = upd H T (.tup [.int (i : Int), x]) ∧ ∀ xs, SqT K H a xs → xs[i]? = some x, fun i H => ∃ xs : List V, SqT K H a xs ∧ xs.length = i⟩
theorem turn_enumT {P : Program} {w : World} {K : PySem.W.Frag} {elts : List Expr} {kk : Nat} {tpos : Pos} (a e it : Addr) (n1 : a ≠ it) (n2 : e ≠ it) (n3 : e ≠ a) :
    Turn P w K (.Tuple elts kk tpos) (IteT K a) [e, it] e (fun i h => (∃ old, IsEnum h e it (i : Int) old) ∧ h.IsTupleIter it a i) where
  mem := by simp
  obj := fun i h st b hb => by
    obtain ⟨⟨old, he⟩, ⟨o, ho, hc, hd⟩⟩ := st
    have e' : b = e ∨ b = it := by simpa using hb
    rcases e' with z | z
    · rw [z]; exact ⟨_, he, fun v q => nomatch q⟩
    · rw [z]; exact ⟨o, ho, fun v q => by rw [hd] at q; cases q⟩
  keep := fun i h h' st k => let ⟨⟨old, he⟩, hi⟩ := st; ⟨⟨old, k e (by simp) _ he⟩, hi.at (k it (by simp))⟩
  item := by
    rintro X rfl rfl rfl hc i pins s σ H E I hf ⟨⟨old, he⟩, hit⟩ ⟨xs, x, lx, ex⟩
    have ⟨its, rv, p, _⟩ := I.tuple lx
    have ⟨u, hu, ru⟩ := rv.get ex
    have D1 := Draws.tuple (prog := X.prog) (w := X.w) (A := X.A.in1) (I.ok.hd hc) it a n1 its.toArray
    have W := GoesN.enumFrom (elts := elts) (x1 := kk) (pos := tpos) 0 D1 e n2 (by simp [n2, n3]) (by simp)
    have b1 : i < its.length := (List.getElem?_eq_some_iff.1 hu).1
    refine W.goes i s (fun v s2 => ∃ x H', Inv X pins σ H' s2 ∧ RelV x v ∧ (IteT X.K a).yld i H x H' ∧ ((∃ old, IsEnum s2.heap e it ((i + 1 : Nat) : Int) old) ∧ s2.heap.IsTupleIter it a (i + 1)) ∧ ∀ b ∈ [e, it], H' b = none) E (by simpa using b1) ⟨⟨old, by rw [Int.zero_add]; exact he⟩, hit, p⟩ ?_
    rintro v h' tk ⟨T, t1, v1, rfl, hn, hv1, hT⟩ ⟨r1, r2, _⟩ hk _
    have c1 : v1 = u := by simpa [hu] using hv1.symm
    subst c1
    rw [Int.zero_add] at hT
    have new : ObjOk X.prog X.w (upd H T (.tup [.int (i : Int), x])) h' T (.tup [.int (i : Int), x]) := ⟨by show 2 ≤ sizeLine; decide, [.int (i : Int) t1, v1], .cons ⟨_, rfl⟩ (.cons ru .nil), hT⟩
    obtain ⟨old1, r1⟩ := r1
    rw [Int.zero_add] at r1
    refine ⟨.ref T, _, I.turnedNew (t' := tk) (ch := [e, it]) (fun c o hb q => hk c o hb q) (fun c hm => hf c hm) hn new, rfl, ⟨T, x, rfl, I.hok.fresh hn, rfl, fun l hl => I.tuple_inj hl lx ▸ ex⟩, ⟨⟨old1, r1⟩, r2⟩, fun c hm => ?_⟩
    have hl : c < s.heap.objs.size := by
      obtain ⟨o2, q2, _⟩ := hit
      simp only [List.mem_cons, List.not_mem_nil, or_false] at hm
      rcases hm with rfl | rfl
      · exact Heap.lt_size he
      · exact Heap.lt_size q2
    exact (upd_ne (Nat.ne_of_lt (Nat.lt_of_lt_of_le hl hn))).trans (hf c hm).1
  done := by
    rintro X rfl rfl rfl hc i pins s σ H E I hf ⟨⟨old, he⟩, hit⟩ ⟨xs, lx, ex⟩
    have ⟨its, rv, p, _⟩ := I.tuple lx
    have D1 := Draws.tuple (prog := X.prog) (w := X.w) (A := X.A.in1) (I.ok.hd hc) it a n1 its.toArray
    have W := GoesN.enumFrom (elts := elts) (x1 := kk) (pos := tpos) 0 D1 e n2 (by simp [n2, n3]) (by simp)
    have hi : its.toArray.size = i := by
      have l1 := rv.length
      simp; omega
    refine W.stops s (fun s1 => Inv X pins σ H s1) E (by rw [hi]; exact ⟨⟨old, by rw [Int.zero_add]; exact he⟩, hit, p⟩) ?_
    intro h' tk hk _
    exact I.turnedL (t' := tk) (ch := [e, it]) (fun c o hb q => hk c o hb q) fun c hm => hf c hm
  self := fun A i s Q E st h => let ⟨⟨_, he⟩, _⟩ := st; wpAny_pyIter_enum he h
def iEnumT (K : PySem.W.Frag) (ta : TA) : TI := fun σ H R => ta σ H fun vs H1 => ∃ a xs, vs = [.ref a] ∧ SqT K H1 a xs ∧ R (IteT K a) H1
theorem pi_enumT {X : Cx} {e : Expr} {ta : TA} {p pos tpos : Pos} {elts : List Expr} {kk : Nat} (hg : Gl X "enumerate") (hm : X.mg "enumerate" = none) (ha : PA X [e] ta) (hst : starEach [e] X.env = [(false, eval e X.env)] := by rfl) :
    PI X (.Tuple elts kk tpos) (.Call (.Name "enumerate" p) [e] [] pos) (iEnumT X.K ta) where
  run := by
    intro pins s σ H R I h
    refine PyProof.Rows.Call_ (ld_blt I hg hm PyProof.Rows.boot_enumerate (PyProof.Rows.callWith_type1 (thn (ha.run pos pins s σ H _ I h) ?_) hst rfl))
    rintro us s1 ⟨vs, H1, I1, r1, a, xs, rfl, lx, q⟩
    match us, r1 with
    | [_], .cons r .nil =>
      cases r
      have ⟨its, _, p1, _⟩ := I1.tuple lx
      have la : a < s1.heap.objs.size := have ⟨_, e, _⟩ := p1; Heap.lt_size e
      refine enum_begins1 (begins_tuple a its.toArray) p1 fun h' q1 q2 _ hk => wpAny_pyIter_enum q1 ?_
      refine ⟨_, [s1.heap.objs.size + 1, s1.heap.objs.size], _, _, H1, rfl, I1.kept (t' := s1.toks) hk, turn_enumT a _ _ (Nat.ne_of_lt la) (Nat.succ_ne_self _) (Nat.ne_of_gt (Nat.lt_succ_of_lt la)), ⟨⟨.none, by simpa using q1⟩, ⟨_, q2, rfl, rfl⟩⟩, fun c hm => ?_, q⟩
      have hl : s1.heap.objs.size ≤ c := by
        simp only [List.mem_cons, List.not_mem_nil, or_false] at hm
        rcases hm with rfl | rfl <;> first | exact Nat.le_refl _ | exact Nat.le_add_right _ _
      exact I1.fpOk hl (I1.hok.fresh hl)
end
/-! enumC -/
/-! [.. for i, x in enumerate(..)] -/
theorem lc_it {J : It} {n : Nat} {g : TG} {tt : TT} {te : TE} {vs : List Nat} {σ : L2.St} {H1 : Hp} {D : Addr} {Qd : Hp → Prop} (Pv : Nat → Hp → Prop) (h0 : Pv 0 (upd H1 D (.lst []))) (hgo : ∀ i H, i < n → Pv i H → J.go i H) (hst : ∀ H, Pv n H → J.stop n H)
    (hs : ∀ i H, i < n → Pv i H → ∀ x H', J.yld i H x H' → g x (wipe σ vs) H' fun σ2 H2 => wipe σ2 vs = wipe σ vs ∧ tt σ2 H2 fun b H3 =>
      if b = true then te σ2 H3 fun y H4 => ∃ acc, H4 D = some (.lst acc) ∧ acc.length < sizeLine ∧ Pv (i + 1) (upd H4 D (.lst (acc ++ [y]))) else Pv (i + 1) H3) (hd : ∀ H, Pv n H → Qd H) :
    ∃ W : Nat → Nat → Hp → Prop, (∃ m, W 0 m (upd H1 D (.lst []))) ∧ ∀ i m H, W i m H →
      (J.stop i H ∧ Qd H) ∨ (J.go i H ∧ ∃ Nx : Hp → Prop, (∀ H', Nx H' → ∃ m', m' < m ∧ W (i + 1) m' H') ∧ ∀ x H', J.yld i H x H' → g x (wipe σ vs) H' fun σ2 H2 => wipe σ2 vs = wipe σ vs ∧ tt σ2 H2 fun b H3 =>
        if b = true then te σ2 H3 fun y H4 => ∃ acc, H4 D = some (.lst acc) ∧ acc.length < sizeLine ∧ Nx (upd H4 D (.lst (acc ++ [y]))) else Nx H3) := by
  refine ⟨fun i m H => m = n - i ∧ i ≤ n ∧ Pv i H, ⟨n, by simp, Nat.zero_le _, h0⟩, ?_⟩
  rintro i m H ⟨rfl, hi, p⟩
  by_cases hlt : i < n
  · exact .inr ⟨hgo i H hlt p, Pv (i + 1), fun H' p' => ⟨n - (i + 1), by omega, rfl, hlt, p'⟩, hs i H hlt p⟩
  · have e : i = n := by omega
    subst e
    exact .inl ⟨hst H p, hd H p⟩
section
variable {X : Cx} {σ σ' : L2.St} {H : Hp} {Q : VK} {N Vs Ls G Vs' G' : List Str} {k i j kt : Nat} {sc scope : Scope} {elt e : Expr} {ifs : List Expr} {p p1 p2 p3 pos : Pos} {nm nm2 : Str}
theorem xlc_ET2 (C : Ctx X sc N Vs Ls G k) (O : LcOk2 sc scope N Vs' G' nm nm2 i j ifs) (hg : Mem G "enumerate") (hm : X.mg "enumerate" = none)
    (h : XA X [e] σ H fun vs H1 => ∃ a xs, vs = [.ref a] ∧ SqT X.K H1 a xs ∧ ∀ L H2, Kp [] H1 H2 → H1 L = none → H2 L = some (.lst []) → ∃ Pv : Nat → Hp → Prop, Pv 0 H2 ∧ (∀ t H', t ≤ xs.length → Pv t H' → SqT X.K H' a xs) ∧
      (∀ t y T H' H'', xs[t]? = some y → Pv t H' → Kp [] H' H'' → H' T = none → SqT X.K H'' T [.int (t : Int), y] → XTurn2 X sc scope N Vs' G' k nm nm2 ifs elt σ (.ref T) H'' L (Pv (t + 1))) ∧ ∀ H', Pv xs.length H' → Q (.ref L) H')
    (hst : starEach [e] X.env = [(false, eval e X.env)] := by rfl) : XLC X elt (.Tuple [.Name nm p1, .Name nm2 p2] kt p3) (.Call (.Name "enumerate" p) [e] [] pos) ifs scope σ H Q := by
  refine ⟨_, gTwo X.K i j, ttC X scope ifs, teC X scope elt, [(nm, i), (nm2, j)], pi_enumT (C.gl hg) hm XA.pa hst, blkOk_by (by rw [C.hN, C.esc]; exact O.blk), fun _ _ _ _ _ => pg_two C O, fun _ _ _ _ _ => pts_blk O.one, fun _ _ _ _ _ => pe_blk,
    fun σ H R R' m h => h.mono fun vs H1 ⟨a, xs, e, h1, q⟩ => ⟨a, xs, e, h1, m _ _ q⟩, ?_⟩
  refine h.mono fun vs H1 ⟨a, xs, e, hx, h⟩ => ⟨a, xs, e, hx, fun L hL => ?_⟩
  obtain ⟨Pv, h0, hl, hs, hd⟩ := h L _ (Kp.new hL) hL upd_same
  refine lc_it (n := xs.length) Pv h0 (fun t H hi p => ⟨xs, xs[t], hl t H (Nat.le_of_lt hi) p, List.getElem?_eq_getElem hi⟩) (fun H p => ⟨xs, hl _ H (Nat.le_refl _) p, rfl⟩) (fun t H hi p x H' y => ?_) hd
  obtain ⟨T, z, rfl, hT, rfl, hz⟩ := y
  exact turn_ok2 C O (hs t z T H _ (hz xs (hl t H (Nat.le_of_lt hi) p)) p (Kp.new hT) hT (.inl (.inl upd_same)))
theorem xlc_EL2 (C : Ctx X sc N Vs Ls G k) (O : LcOk2 sc scope N Vs' G' nm nm2 i j ifs) (hg : Mem G "enumerate") (hm : X.mg "enumerate" = none)
    (h : XA X [e] σ H fun vs H1 => ∃ a xs, vs = [.ref a] ∧ SqL X.K H1 a xs ∧ ∀ L H2, Kp [] H1 H2 → H1 L = none → H2 L = some (.lst []) → ∃ Pv : Nat → Hp → Prop, Pv 0 H2 ∧ (∀ t H', t ≤ xs.length → Pv t H' → SqL X.K H' a xs) ∧
      (∀ t y T H' H'', xs[t]? = some y → Pv t H' → Kp [] H' H'' → H' T = none → SqT X.K H'' T [.int (t : Int), y] → XTurn2 X sc scope N Vs' G' k nm nm2 ifs elt σ (.ref T) H'' L (Pv (t + 1))) ∧ ∀ H', Pv xs.length H' → Q (.ref L) H')
    (hst : starEach [e] X.env = [(false, eval e X.env)] := by rfl) : XLC X elt (.Tuple [.Name nm p1, .Name nm2 p2] kt p3) (.Call (.Name "enumerate" p) [e] [] pos) ifs scope σ H Q := by
  refine ⟨_, gTwo X.K i j, ttC X scope ifs, teC X scope elt, [(nm, i), (nm2, j)], pi_enum (C.gl hg) hm XA.pa hst, blkOk_by (by rw [C.hN, C.esc]; exact O.blk), fun _ _ _ _ _ => pg_two C O, fun _ _ _ _ _ => pts_blk O.one, fun _ _ _ _ _ => pe_blk,
    fun σ H R R' m h => h.mono fun vs H1 ⟨a, xs, e, h1, q⟩ => ⟨a, xs, e, h1, m _ _ q⟩, ?_⟩
  refine h.mono fun vs H1 ⟨a, xs, e, hx, h⟩ => ⟨a, xs, e, hx, fun L hL => ?_⟩
  obtain ⟨Pv, h0, hl, hs, hd⟩ := h L _ (Kp.new hL) hL upd_same
  refine lc_it (n := xs.length) Pv h0 (fun t H hi p => ⟨xs, xs[t], hl t H (Nat.le_of_lt hi) p, List.getElem?_eq_getElem hi⟩) (fun H p => ⟨xs, hl _ H (Nat.le_refl _) p, Nat.le_refl _⟩) (fun t H hi p x H' y => ?_) hd
  obtain ⟨T, z, rfl, hT, rfl, hz⟩ := y
  exact turn_ok2 C O (hs t z T H _ (hz xs (hl t H (Nat.le_of_lt hi) p)) p (Kp.new hT) hT (.inl (.inl upd_same)))
end
/-! forK -/
/-! for k in a dict (numbers for keys): the dict is locked meanwhile -/
theorem Kp.lock {H : Hp} {d : Addr} {u : HO} {od : Obj} (h : H d = some u) (m : Mu u = true) : Kp [d] H (upd H d (.frz od u)) := Kp.set h m
theorem Kp.unlock {A : List Addr} {H H1 : Hp} {d : Addr} {u : HO} {od : Obj} (h : H d = some u) (m : Mu u = true) (k : Kp A (upd H d (.frz od u)) H1) : Kp A H (upd H1 d u) := by
  have nd : ∀ q xs, H q = some (.tup xs) → q ≠ d := fun q xs e z => by rw [z, h] at e; cases e; cases m
  have nz : ∀ q o w, H q = some (.frz o w) → q ≠ d := fun q o w e z => by rw [z, h] at e; cases e; cases m
  refine ⟨fun q o hq e => ?_, fun q xs e => ?_, fun q o w e => ?_, fun q e => ?_⟩
  · by_cases z : q = d
    · subst z; rw [upd_same]; rw [h] at e; exact e
    · rw [upd_ne z]; exact k.k q o hq (by rw [upd_ne z]; exact e)
  · have z := nd q xs e
    rw [upd_ne z]; exact k.t q xs (by rw [upd_ne z]; exact e)
  · have z := nz q o w e
    rw [upd_ne z]; exact k.z q o w (by rw [upd_ne z]; exact e)
  · by_cases z : q = d
    · subst z; rw [upd_same] at e; cases e
    · rw [upd_ne z] at e
      have := k.n q e
      rw [upd_ne z] at this; exact this
theorem for_keys {d : Addr} {od : Obj} {kvs : List (Key × V)} {g : TG} {tb : TS} {D : Ends} {σ : L2.St} {H : Hp} (Pv : Nat → L2.St → Hp → Prop) (h0 : Pv 0 σ H) (hq : ∀ i σ H, i ≤ kvs.length → Pv i σ H → H d = some (.frz od (.dK kvs)))
    (hs : ∀ (i : Nat) (k : Key) (v : V) (σ : L2.St) (H : Hp), kvs[i]? = some (k, v) → Pv i σ H → g (kV k) σ H fun σ2 H2 => tb ⟨Pv (i + 1), D.rt, D.nx, Pv (i + 1)⟩ σ2 H2) (hd : ∀ σ H, Pv kvs.length σ H → D.nx σ H) :
    ∃ W : Nat → Nat → L2.St → Hp → Prop, (∃ m, W 0 m σ H) ∧ ∀ i m σ H, W i m σ H →
      ((Itk d od kvs).stop i H ∧ D.nx σ H) ∨ ((Itk d od kvs).go i H ∧ ∃ N : L2.St → Hp → Prop, (∀ σ' H', N σ' H' → ∃ m', m' < m ∧ W (i + 1) m' σ' H') ∧ ∀ v H', (Itk d od kvs).yld i H v H' → g v σ H' fun σ2 H2 => tb { D with nx := N, ct := N, bk := D.nx } σ2 H2) := by
  refine ⟨fun i m σ H => i ≤ kvs.length ∧ m + i = kvs.length ∧ Pv i σ H, ⟨_, Nat.zero_le _, rfl, h0⟩, ?_⟩
  rintro i m σ H ⟨hi, hm, p⟩
  have qx := hq i σ H hi p
  rcases Nat.lt_or_ge i kvs.length with lt | ge
  · refine .inr ⟨⟨qx, lt⟩, Pv (i + 1), fun σ' H' p' => ⟨m - 1, by omega, lt, by omega, p'⟩, ?_⟩
    rintro v H' ⟨rfl, k, w, e, rfl⟩
    exact hs i k w σ _ e p
  · obtain rfl : i = kvs.length := Nat.le_antisymm hi ge
    exact .inl ⟨⟨qx, Nat.le_refl _⟩, hd σ H p⟩
section
variable {X : Cx} {σ : L2.St} {H : Hp} {N Vs Ls G : List Str} {k : Nat} {sc : Scope} {tg iter : Expr} {pos : Pos} {nx : L2.St → Hp → Prop} {D : B3} {body : List Stmt}
/-- d is what iter gives, locked from the start -/
theorem xs_forK (C : Ctx X sc N Vs Ls G k) {d : Addr} {kvs : List (Key × V)} (hd : H d = some (.dK kvs))
    (h : ∀ (od : Obj) (H1 : Hp), Kp [d] H H1 → H1 d = some (.frz od (.dK kvs)) → (∀ A H2, Kp A H1 H2 → Kp A H (upd H2 d (.dK kvs))) → XE X iter σ H1 fun v H2 => v = .ref d ∧ H2 d = some (.frz od (.dK kvs)) ∧ ∃ Pv : Nat → L2.St → Hp → Prop, Pv 0 σ H2 ∧
      (∀ i σ' H', i ≤ kvs.length → Pv i σ' H' → H' d = some (.frz od (.dK kvs))) ∧
      (∀ i kk v σ' H', kvs[i]? = some (kk, v) → Pv i σ' H' → XG X tg (kV kk) σ' H' fun σ2 H2 => XB X body (Pv (i + 1)) ⟨fun v H' => H' d = some (.frz od (.dK kvs)) ∧ D.rt v (upd H' d (.dK kvs)), fun σ' H' => H' d = some (.frz od (.dK kvs)) ∧ nx σ' (upd H' d (.dK kvs)), Pv (i + 1)⟩ σ2 H2) ∧
      ∀ σ' H', Pv kvs.length σ' H' → nx σ' (upd H' d (.dK kvs)))
    (hs : ∀ x, foldedSetIterable iter X.env x = pure x := by intro _; rfl) : XS X (.For tg iter body [] pos) nx D σ H := by
  refine ⟨_, ps_lock (ps_for C.po C.calm (pi_keys XE.pe) XG.pg XB.ps hs), d, .dK kvs, hd, by trivial, fun od => ?_⟩
  refine XE.mono (h od _ (Kp.lock hd rfl) upd_same fun A H2 k2 => Kp.unlock hd rfl k2) fun v H2 ⟨e, h2, Pv, h0, hq, hs, hdn⟩ => ⟨d, od, e, .inl ⟨kvs, h2, ?_⟩⟩
  refine for_keys (d := d) (od := od) (kvs := kvs) (D := ⟨fun σ' H' => H' d = some (.frz od (.dK kvs)) ∧ nx σ' (upd H' d (.dK kvs)), fun v H' => H' d = some (.frz od (.dK kvs)) ∧ D.rt v (upd H' d (.dK kvs)), fun σ' H' => H' d = some (.frz od (.dK kvs)) ∧ D.bk σ' (upd H' d (.dK kvs)), fun σ' H' => H' d = some (.frz od (.dK kvs)) ∧ D.ct σ' (upd H' d (.dK kvs))⟩) (g := XG X tg) (tb := fun D σ H => XB X body D.nx ⟨D.rt, D.bk, D.ct⟩ σ H) Pv h0 hq hs (fun σ' H' p => ⟨hq _ _ _ (Nat.le_refl _) p, hdn σ' H' p⟩)
end
/-! unlk -/
/-! data without lists, when a dict is unlocked -/
theorem sqT_upd {K : PySem.W.Frag} {H : Hp} {d p : Addr} {u : HO} {xs : List V} (n1 : ∀ ys, H d ≠ some (.tup ys)) (n2 : ∀ o ys, H d ≠ some (.frz o (.tup ys))) (h : SqT K H p xs) : SqT K (upd H d u) p xs := by
  rcases h with (h | ⟨o, h⟩) | h
  · exact .inl (.inl (by rw [upd_ne (fun z => by rw [z] at h; exact n1 _ h)]; exact h))
  · exact .inl (.inr ⟨o, by rw [upd_ne (fun z => by rw [z] at h; exact n2 _ _ h)]; exact h⟩)
  · exact .inr h
mutual
theorem dp_updT {K : PySem.W.Frag} {H : Hp} {d : Addr} {u : HO} (n1 : ∀ ys, H d ≠ some (.tup ys)) (n2 : ∀ o ys, H d ≠ some (.frz o (.tup ys))) : ∀ {e : PyData} {v : V}, noL e = true → Dp K H v e → Dp K (upd H d u) v e
  | _, _, _, .non => .non
  | _, _, _, .bl b => .bl b
  | _, _, _, .int i => .int i
  | _, _, _, .str x => .str x
  | _, _, n, .lst h a => by simp [noL] at n
  | _, _, n, .tup h a => .tup (sqT_upd n1 n2 h) (dpAll_updT n1 n2 (by simpa [noL] using n) a)
theorem dpAll_updT {K : PySem.W.Frag} {H : Hp} {d : Addr} {u : HO} (n1 : ∀ ys, H d ≠ some (.tup ys)) (n2 : ∀ o ys, H d ≠ some (.frz o (.tup ys))) : ∀ {es : List PyData} {vs : List V}, noLs es = true → DpAll K H vs es → DpAll K (upd H d u) vs es
  | _, _, _, .nil => .nil
  | _, _, n, .cons h a => by
    simp only [noLs, Bool.and_eq_true] at n
    exact .cons (dp_updT n1 n2 n.1 h) (dpAll_updT n1 n2 n.2 a)
end
/-! xext -/
/-- xs.extend(ys) -/
theorem xe_extend {X : Cx} {σ : St} {H : Hp} {Q : VK} {a b : Expr} {pos apos : Pos} (h : XE X a σ H fun y H1 => ∃ l xs, y = .ref l ∧ H1 l = some (.lst xs) ∧ XE X b σ H1 fun z H2 => H2 l = some (.lst xs) ∧ ∃ p zs, z = .ref p ∧ H2 p = some (.lst zs) ∧ xs.length + zs.length ≤ sizeLine ∧ ∀ H', Kp [l] H2 H' → H' l = some (.lst (xs ++ zs)) → Q .non H')
    (hbase : attributeBase a "extend" X.env (eval a X.env) = eval a X.env := by rfl) (hs : starEach (b :: []) X.env = (false, eval b X.env) :: starEach [] X.env := by rfl) (hline : (apos.endLine == pos.line) = true := by rfl)
    (hfew : ((backTo pos (starEach [b] X.env)).all (fun x => !x.1) && (backToKw pos (keywordEach [] X.env)).all (fun x => x.1.isSome) && decide (([b] : List Expr).length + ([] : List Keyword).length + (if ([] : List Keyword).isEmpty then 0 else 1) < 30)) = true := by rfl)
    : XE X (.Call (.Attribute a "extend" apos) [b] [] pos) σ H Q := by
  refine ⟨_, pe_bm PySem.F.plainAttrs_list PySem.F.slot_list_extend PySem.F.type_list_extend mt_extend XE.pe XA.pa hbase hfew hline hs, ?_⟩
  refine XE.mono h fun y H1 ⟨l, xs, e, hl, q⟩ => ?_
  subst e
  refine ⟨.inl ⟨rfl, xs, .inl (.inl hl)⟩, xa_cons (hs := hs) (XE.mono q fun z H2 ⟨hl2, p, zs, ez, hp, hz, q⟩ => xa_nil ?_)⟩
  exact ⟨l, p, xs, zs, rfl, by rw [ez], hl2, hp, hz, q _ (Kp.set hl2 rfl) upd_same⟩
/-! dget1 -/
/-! d.get(k) -/
section
variable {X : Cx} {σ : St} {H : Hp} {Q : VK} {N Vs Ls G : List Str} {k : Nat} {sc : Scope} {e o : Expr} {apos cpos : Pos}
theorem xe_dget1 (C : Ctx X sc N Vs Ls G k) (h : XE X o σ H fun x H1 => ∃ a, x = .ref a ∧ IsD H1 a ∧ XE X e σ H1 fun y H2 => ∃ o, DGet H2 a y o ∧ Q (o.getD .non) H2) (m : M1 X o "get" apos e cpos := by exact ⟨rfl, rfl, rfl, rfl⟩) : XE X (.Call (.Attribute o "get" apos) [e] [] cpos) σ H Q :=
  ⟨_, pe_dget1 C.hu XE.pe XE.pe m, h⟩
end
/-! libR -/
/-! a library, as it is read -/
def DkAt (H : Hp) (d : Addr) (kvs : List (Key × V)) : Prop := H d = some (.dK kvs) ∨ ∃ o, H d = some (.frz o (.dK kvs))
def esOf (qs : List (Int × Addr × List Int)) (d : Int) : List Int := match lkA qs d with
  | some z => z.2
  | none => []
structure Know (n f : Int) (ks qs : List (Int × Addr × List Int)) : Prop where
  ky : ∀ k ∈ ks, k.1 = dig n f k.2.2
  nd : ∀ k ∈ ks, lkA ks k.1 = some k.2
  th : ∀ k ∈ ks, isThing k.2.2 = true ∧ RowOk k.2.2 ∧ (k.2.2.getD 0 0 = 4 → 0 ≤ k.2.2.getD 2 0 ∧ k.2.2.getD 2 0 < 2 ^ 69)
  hd : ∀ k ∈ ks, k.2.2.getD 0 0 = 4 → ∃ c es, lkA qs k.1 = some (c, es) ∧ (es.length : Int) = k.2.2.getD 4 0 ∧ rt n f es = k.2.2.getD 5 0 ∧ 1 ≤ es.length ∧ es.length ≤ 500
  no : ∀ k ∈ ks, ¬ k.2.2.getD 0 0 = 4 → lkA qs k.1 = none
  only : ∀ x, lkA ks x = none → lkA qs x = none
structure LibRd (K : PySem.W.Frag) (CL CM : Addr) (H : Hp) (a dx mx dR dE : Addr) (n f : Int) (ks qs : List (Int × Addr × List Int)) : Prop where
  ha : H a = some (.ins CL dx (libF mx dR dE))
  hx : Mx CM H mx n f
  hR : DkAt H dR (kvR ks)
  hE : DkAt H dE (kvR qs)
  rows : ∀ k ∈ ks, SqT K H k.2.1 (k.2.2.map V.int)
  ents : ∀ k ∈ qs, H k.2.1 = some (.lst (k.2.2.map V.int))
  kn : Know n f ks qs
theorem DkAt.kpN {A : List Addr} {H H' : Hp} {d : Addr} {kvs : List (Key × V)} (h : DkAt H d kvs) (k : Kp A H H') (n : ∀ l ∈ A, H l = none) : DkAt H' d kvs := by
  rcases h with h | ⟨o, h⟩
  · exact .inl (k.atN n h)
  · exact .inr ⟨o, k.z _ _ _ h⟩
section
variable {K : PySem.W.Frag} {CL CM a dx mx dR dE b r : Addr} {H H' : Hp} {n f : Int} {ks qs : List (Int × Addr × List Int)}
theorem LibRd.kpN {A : List Addr} (h : LibRd K CL CM H a dx mx dR dE n f ks qs) (k : Kp A H H') (nn : ∀ l ∈ A, H l = none) : LibRd K CL CM H' a dx mx dR dE n f ks qs :=
  ⟨k.atN nn h.ha, (by obtain ⟨d, e⟩ := h.hx; exact ⟨d, k.atN nn e⟩), h.hR.kpN k nn, h.hE.kpN k nn, fun z m => k.tup (h.rows z m), fun z m => k.atN nn (h.ents z m), h.kn⟩
instance : Car H H' (LibRd K CL CM H a dx mx dR dE n f ks qs) (LibRd K CL CM H' a dx mx dR dE n f ks qs) := ⟨fun k n h => h.kpN k n⟩
theorem DkAt.box {d : Addr} {kvs : List (Key × V)} (h : DkAt H d kvs) (bx : Box H b r) (k : Kp [b] H H') : DkAt H' d kvs := by
  rcases h with h | ⟨o, h⟩
  · exact .inl (bx.other k (fun _ z => nomatch z) h)
  · exact .inr ⟨o, k.z _ _ _ h⟩
instance : CarB b r H H' (LibRd K CL CM H a dx mx dR dE n f ks qs) (LibRd K CL CM H' a dx mx dR dE n f ks qs) := ⟨fun bx k h =>
  ⟨bx.other k (fun _ z => nomatch z) h.ha, h.hx.box bx k, h.hR.box bx k, h.hE.box bx k, fun z m => k.tup (h.rows z m), fun z m => k.at1 (bx.neInts (h.ents z m)) (h.ents z m), h.kn⟩⟩
theorem LibAt.rd (h : LibAt K CL CM H a dx mx dR dE n f ks qs) (kn : Know n f ks qs) : LibRd K CL CM H a dx mx dR dE n f ks qs := ⟨h.ha, h.hx, .inl h.hR, .inl h.hE, h.rows, h.ents, kn⟩
theorem DkAt.set {l : Addr} {xs : List V} {d : Addr} {kvs : List (Key × V)} (h : DkAt H d kvs) (hl : H l = some (.lst xs)) (k : Kp [l] H H') : DkAt H' d kvs := by
  rcases h with h | ⟨o, h⟩
  · exact .inl (k.at1 (ne_of h hl (by intro z; cases z)) h)
  · exact .inr ⟨o, k.z _ _ _ h⟩
/-- a library beside a list that is written -/
theorem LibRd.set {l : Addr} {xs : List V} (h : LibRd K CL CM H a dx mx dR dE n f ks qs) (hl : H l = some (.lst xs)) (k : Kp [l] H H') (nq : ∀ k ∈ qs, k.2.1 ≠ l) : LibRd K CL CM H' a dx mx dR dE n f ks qs := by
  obtain ⟨dm, hm⟩ := h.hx
  exact ⟨k.at1 (ne_of h.ha hl (by intro z; cases z)) h.ha, ⟨dm, k.at1 (ne_of hm hl (by intro z; cases z)) hm⟩, h.hR.set hl k, h.hE.set hl k, fun z m => k.tup (h.rows z m), fun z m => k.at1 (nq z m) (h.ents z m), h.kn⟩
theorem LibRd.nq {l : Addr} (h : LibRd K CL CM H a dx mx dR dE n f ks qs) (nl : H l = none) : ∀ k ∈ qs, k.2.1 ≠ l := fun k m e => by
  have := h.ents k m
  rw [e, nl] at this; cases this
/-- while the rows' dict is locked -/
theorem LibRd.lock {o : Obj} (h : LibRd K CL CM H a dx mx dR dE n f ks qs) (k : Kp [dR] H H') (e : H' dR = some (.frz o (.dK (kvR ks)))) (h0 : H dR = some (.dK (kvR ks))) : LibRd K CL CM H' a dx mx dR dE n f ks qs := by
  obtain ⟨dm, hm⟩ := h.hx
  refine ⟨k.at1 (ne_of h.ha h0 (by intro z; cases z)) h.ha, ⟨dm, k.at1 (ne_of hm h0 (by intro z; cases z)) hm⟩, .inr ⟨o, e⟩, ?_, fun z m => k.tup (h.rows z m), fun z m => k.at1 (ne_of (h.ents z m) h0 (by intro z; cases z)) (h.ents z m), h.kn⟩
  rcases h.hE with g | ⟨o', g⟩
  · by_cases z : dE = dR
    · rw [z] at g ⊢
      rw [h0] at g
      have := HO.dK.inj (Option.some.inj g)
      rw [← this]; exact .inr ⟨o, e⟩
    · exact .inl (k.at1 z g)
  · exact .inr ⟨o', k.z _ _ _ g⟩
end
/-- what a word lists, with the places -/
def enumN (w : Str) (l : List Int) : List (Int × Str × Int) := (List.range l.length).map fun i => (l.getD i 0, w, (i : Int))
def heldL (row es : List Int) : List (Int × Str × Int) := enumN "cite" (listN row "cite") ++ enumN "back" (listN row "back") ++ enumN "entry" es
def hD (x : Int × Str × Int) : PyData := .tuple [.int x.1, .tuple [.str x.2.1, .int x.2.2]]
theorem enumN_at {w : Str} {l : List Int} {i : Nat} (h : i < l.length) : (enumN w l)[i]? = some (l.getD i 0, w, (i : Int)) := by
  unfold enumN
  rw [List.getElem?_map, List.getElem?_range h]; rfl
theorem enumN_len {w : Str} {l : List Int} : (enumN w l).length = l.length := by unfold enumN; simp
theorem noL_hD : ∀ xs : List (Int × Str × Int), noLs (xs.map hD) = true
  | [] => rfl
  | x :: r => by simp [noLs, noL, hD, noL_hD r]
theorem listN_len {rs : List Int} (w : Str) : (listN rs w).length ≤ rs.length := by
  unfold listN
  split
  · rw [List.length_take, List.length_drop]; omega
  · split
    · rw [List.length_drop]; omega
    · simp
section
variable {X : Cx} {σ : L2.St} {H : Hp} {Q : VK} {N Vs Ls G : List Str} {k : Nat} {sc : Scope} {e o f : Expr} {apos cpos : Pos}
theorem xe_dget2 (C : Ctx X sc N Vs Ls G k) (h : XE X o σ H fun x H1 => ∃ a, x = .ref a ∧ IsD H1 a ∧ XE X e σ H1 fun y H2 => XE X f σ H2 fun z H3 => ∃ o, DGet H3 a y o ∧ Q (o.getD z) H3) (m : M2 X o "get" apos e f cpos := by exact ⟨rfl, rfl, rfl, rfl⟩) : XE X (.Call (.Attribute o "get" apos) [e, f] [] cpos) σ H Q :=
  ⟨_, pe_dget2 C.hu XE.pe XE.pe XE.pe m, h⟩
end
/-! held_by -/
section
local macro_rules | `(tactic| wtm_at "d") => `(tactic| first | ((with_reducible show Z.XE _ (PySem.Expr.Call (PySem.Expr.Name "enumerate" _) (_ :: _) [] _) _ _ _); refine Z.xe_callB (id := "enumerate") (by assumption) (by wtm_at "m") T.b_enumerate (by decide +kernel) ?_) | ((with_reducible show Z.XE _ (PySem.Expr.Name "CITE" _) _ _ _); refine Z.xe_glob (v := L2.V.str "cite") (by assumption) (by wtm_at "m") T.c_CITE.choose_spec ⟨_, rfl⟩ ?_) | ((with_reducible show Z.XE _ (PySem.Expr.Name "BACK" _) _ _ _); refine Z.xe_glob (v := L2.V.str "back") (by assumption) (by wtm_at "m") T.c_BACK.choose_spec ⟨_, rfl⟩ ?_) | ((with_reducible show Z.XE _ (PySem.Expr.Name "ENTRY" _) _ _ _); refine Z.xe_glob (v := L2.V.str "entry") (by assumption) (by wtm_at "m") T.c_ENTRY.choose_spec ⟨_, rfl⟩ ?_) | ((with_reducible show Z.XE _ (PySem.Expr.Call (PySem.Expr.Name "listed" _) (_ :: _) [] _) _ _ _); refine Z.xe_call (by assumption) (Law.ok_listed T) (by wtm_at "m") (by omega) ?_) | fail)
local macro_rules | `(tactic| wtm_at "car") => `(tactic| ((try replace W := Z.car k W); (try replace P := Z.car k P); (try replace I := Z.car k I); (try replace li := Z.car k li); (try replace M := Z.car k M); (try replace hd := Z.car k hd); (try replace hl := Z.car k hl); (try replace hr := Z.car k hr); (try replace hq := Z.car k hq); (try replace hL := Z.car k hL); (try replace hus := Z.car k hus); (try replace hx := Z.car k hx); (try replace hy := Z.car k hy); (try replace hid := Z.car k hid); (try replace ha := Z.car k ha); (try replace hes := Z.car k hes); (try replace hk := Z.car k hk); (try replace h1 := Z.car k h1); (try replace h2 := Z.car k h2); (try replace h4 := Z.car k h4); (try replace h5 := Z.car k h5); (try replace h6 := Z.car k h6); (try replace h7 := Z.car k h7); (try replace h8 := Z.car k h8); (try replace h9 := Z.car k h9); (try replace h11 := Z.car k h11); (try replace h30 := Z.car k h30); (try replace d2 := Z.car k d2); (try replace d3 := Z.car k d3); (try replace d4 := Z.car k d4); clear k))
def sp_heldBy (K : PySem.W.Frag) (CL CM : Addr) : Sp := fun vs H Q _ => ∃ (a mx dR dE dx p : Addr) (n f d : Int) (row : List Int) (ks qs : List (Int × Addr × List Int)), vs = [.ref a, .int d] ∧ LibRd K CL CM H a dx mx dR dE n f ks qs ∧ lkA ks d = some (p, row) ∧ ∀ L us H', Kp [] H H' → H L = none → H' L = some (.lst us) → DpAll K H' us ((heldL row (esOf qs d)).map hD) → Q (.ref L) H'
theorem ok__held_by (T : Txt P w K mg base) : MetOk P w K mg base T.C_Library "_held_by" ["self", "mark"] 3 (sp_heldBy K T.C_Library T.C_Mixing) := by
  obtain ⟨fn, fd, M, F, bi⟩ := T.m_Library__held_by
  refine ⟨fn, fd, fnOk_by F sc_Library__held_by oc_Library__held_by (fun vs H Q E h => ?_) (fun X e1 e2 e3 e4 e5 C H vs Q E h => ?_), M, bi⟩
  · obtain ⟨a, mx, dR, dE, dx, p, n, f, d, row, ks, qs, rfl, _⟩ := h; rfl
  · obtain ⟨a, mx, dR, dE, dx, p, n, f, d, row, ks, qs, rfl, li, hk, q⟩ := h
    have mem := lkA_mem hk
    obtain ⟨th, ro, _⟩ := li.kn.th _ mem
    dsimp only at th ro
    have lr := ro.len
    have hr : SqT X.K H p (row.map V.int) := by have := li.rows _ mem; rw [← e3] at this; exact this
    have hr0 := hr
    have li0 := li
    wtm_at "go"
    refine xs_set (by assumption) ?_ (hx := by wtm_at "m") (hl := by wtm_at "m")
    refine xe_dget (by assumption) ?_
    refine xe_fld ?_
    wtm_at "w"
    refine ⟨a, _, dx, _, _, rfl, li.ha, T.cl_Library, T.na_Library__rows, lib_r mx dR dE, ?_⟩
    wtm_at "w"
    refine ⟨dR, .ref p, rfl, .inl ⟨_, .inl d, li.hR, rfl, by rw [valV_kvR, hk]; rfl⟩, ?_⟩
    refine ⟨_, by wtm_at "u", ?_⟩
    refine xb_cons ?_
    refine xs_setLc C (by wtm_at "m") (by decide +kernel) rfl (by decide +kernel) ?_
    refine xlc_ET2 (Vs' := ["index", "held"]) (G' := ["CITE"]) (nm := "index") (nm2 := "held") (i := 5) (j := 6) C ⟨rfl, rfl, by decide, by decide +kernel, by decide +kernel, rfl, by decide +kernel, by decide +kernel, by decide⟩ (by wtm_at "m") T.b_enumerate ?_
    wtm_at "w"
    refine ⟨p, row, _, rfl, hr, th, ro, fun t1 H1 k h1 => ?_⟩
    have hid : Fr [] H H1 := k
    wtm_at "car"
    wtm_at "w"
    have ll1 := listN_len (rs := row) "cite"
    have ll2 := listN_len (rs := row) "back"
    have ll1' : (listN row "cite").length ≤ 10000 := by omega
    have ll2' : (listN row "back").length ≤ 10000 := by omega
    clear ll1 ll2
    refine ⟨t1, _, rfl, h1, fun L H2 k nL hL => ?_⟩
    have nL0 := hid.k.n _ nL
    refine ⟨fun t H' => LcD X.K H1 L ((enumN "cite" (listN row "cite")).map hD) t H', .start k hL, ?_, ?_, ?_⟩
    · rintro t H' _ I
      exact I.1.tup h1
    · rintro t y T1 H3 H4 hy I k4 nT hT
      obtain ⟨v, hv, rfl⟩ := map_at hy
      have hi := (List.getElem?_eq_some_iff.mp hv).1
      have hd1 : ((enumN "cite" (listN row "cite")).map hD)[t]? = some (hD (v, "cite", (t : Int))) := by
        rw [List.getElem?_map, enumN_at hi, List.getD_eq_getElem?_getD, hv]; rfl
      clear k
      refine ⟨T1, _, _, _, _, rfl, hT, by wtm_at "u", by wtm_at "u", ?_⟩
      intro s0 H0 c' cl fp C'
      wtm_at "w"
      intro t5 H5 k5 h5 _
      wtm_at "w"
      intro t6 H6 k6 h6 _
      exact I.fin nL ((k4.tr0 k5).tr0 k6) (noL_hD _) hd1 (.tup h6 (.cons (.int _) (.cons (.tup (k6.tup h5) (.cons (.str _) (.cons (.int _) .nil))) .nil))) (by omega)
    · rintro H3 ⟨k, us, hus, hd⟩
      rw [List.length_map, List.take_of_length_le (by rw [List.length_map, enumN_len]; exact Nat.le_refl _)] at hd
      have hL := hus
      have hr := (hid.k.tr0 k).tup hr0
      have hid3 : Fr [] H H3 := (hid.k.tr0 k : Kp [] H H3)
      have nL1 : H L = none := nL0
      clear hid nL0 h1 nL hus
      have hid := hid3
      clear hid3
      have li : LibRd X.K T.C_Library T.C_Mixing H1 a dx mx dR dE n f ks qs := li
      wtm_at "car"
      have lu := dpAll_len hd
      rw [List.length_map, enumN_len] at lu
      refine ⟨_, by wtm_at "u", ?_⟩
      refine xb_cons ?_
      refine xs_expr ?_
      refine xe_extend ?_
      wtm_at "w"
      refine xe_lc C ?_
      refine xlc_ET2 (Vs' := ["index", "held"]) (G' := ["BACK"]) (nm := "index") (nm2 := "held") (i := 5) (j := 6) C ⟨rfl, rfl, by decide, by decide +kernel, by decide +kernel, rfl, by decide +kernel, by decide +kernel, by decide⟩ (by wtm_at "m") T.b_enumerate ?_
      wtm_at "w"
      refine ⟨p, row, _, rfl, hr, th, ro, fun t2 H4 k h2 => ?_⟩
      have hk : Fr [] H3 H4 := k
      wtm_at "car"
      wtm_at "w"
      refine ⟨t2, _, rfl, h2, fun Lb H5 k nL2 hL2 => ?_⟩
      refine ⟨fun t H' => LcD X.K H4 Lb ((enumN "back" (listN row "back")).map hD) t H', .start k hL2, ?_, ?_, ?_⟩
      · rintro t H' _ I
        exact I.1.tup h2
      · rintro t y T1 H6 H7 hy I k4 nT hT
        obtain ⟨v, hv, rfl⟩ := map_at hy
        have hi := (List.getElem?_eq_some_iff.mp hv).1
        have hd1 : ((enumN "back" (listN row "back")).map hD)[t]? = some (hD (v, "back", (t : Int))) := by
          rw [List.getElem?_map, enumN_at hi, List.getD_eq_getElem?_getD, hv]; rfl
        clear k
        refine ⟨T1, _, _, _, _, rfl, hT, by wtm_at "u", by wtm_at "u", ?_⟩
        intro s0 H0 c' cl fp C'
        wtm_at "w"
        intro t5 H8 k5 h5 _
        wtm_at "w"
        intro t6 H9 k6 h6 _
        exact I.fin nL2 ((k4.tr0 k5).tr0 k6) (noL_hD _) hd1 (.tup h6 (.cons (.int _) (.cons (.tup (k6.tup h5) (.cons (.str _) (.cons (.int _) .nil))) .nil))) (by omega)
      · rintro H6 ⟨k, us2, h30, d2⟩
        rw [List.length_map, List.take_of_length_le (by rw [List.length_map, enumN_len]; exact Nat.le_refl _)] at d2
        wtm_at "car"
        have lu2 := dpAll_len d2
        rw [List.length_map, enumN_len] at lu2
        refine ⟨hL, Lb, _, rfl, h30, sz_ (by omega), fun H7 k7 h7 => ?_⟩
        have d3 : DpAll X.K H7 (us ++ us2) ((enumN "cite" (listN row "cite") ++ enumN "back" (listN row "back")).map hD) := by
          rw [List.map_append]
          exact dpAll_app (dpAll_kpT k7 (noL_hD _) hd) (dpAll_kpT k7 (noL_hD _) d2)
        have hid7 : Kp [] H H7 := hid.k.tr1 k7 (.inr nL1)
        have li := li0.kpN hid7 (fun l m => nomatch m)
        clear hid hk hL h2 h30 hd d2 lu lu2 hL2 nL2 hr
        have lu := dpAll_len d3
        simp only [List.length_map, List.length_append, enumN_len] at lu
        refine xb_cons ?_
        refine xs_set (by assumption) ?_ (hx := by wtm_at "m") (hl := by wtm_at "m")
        refine xe_dget2 (by assumption) ?_
        refine xe_fld ?_
        wtm_at "w"
        refine ⟨a, _, dx, _, _, rfl, li.ha, T.cl_Library, T.na_Library__entries, lib_e mx dR dE, ?_⟩
        refine ⟨dE, rfl, ?_, ?_⟩
        · rcases li.hE with z | ⟨o, z⟩
          · exact .inl ⟨_, .inl z⟩
          · exact .inl ⟨_, .inr ⟨o, z⟩⟩
        wtm_at "w"
        intro l8 H8 k n8 h8
        have hk : Fr [] H7 H8 := k
        have nea0 : l8 ≠ L := (ne_of_none h7 n8).symm
        wtm_at "car"
        have hes : ∃ ea, ((lkA qs d).map fun z => V.ref z.1).getD (.ref l8) = .ref ea ∧ H8 ea = some (.lst ((esOf qs d).map V.int)) ∧ ea ≠ L := by
          unfold esOf
          cases hq : lkA qs d with
          | none => exact ⟨l8, rfl, h8, nea0⟩
          | some z =>
            refine ⟨z.1, rfl, li.ents _ (lkA_mem hq), fun e => ?_⟩
            have g := li0.ents _ (lkA_mem hq)
            dsimp only at g
            rw [e, nL1] at g; cases g
        obtain ⟨ea, ee, h9, nea⟩ := hes
        have les : (esOf qs d).length ≤ 500 := by
          unfold esOf
          by_cases h4 : row.getD 0 0 = 4
          · obtain ⟨c, es, e1, _, _, _, e5⟩ := li.kn.hd _ mem h4
            rw [show lkA qs d = some (c, es) from e1]; exact e5
          · rw [show lkA qs d = none from li.kn.no _ mem h4]; simp
        refine ⟨_, .inl ⟨_, .inl d, li.hE, rfl, rfl⟩, ?_⟩
        rw [valV_kvR, ee]
        refine ⟨_, by wtm_at "u", ?_⟩
        refine xb_cons ?_
        refine xs_expr ?_
        refine xe_extend ?_
        wtm_at "w"
        refine xe_lc C ?_
        refine xlc_EL2 (Vs' := ["index", "held"]) (G' := ["ENTRY"]) (nm := "index") (nm2 := "held") (i := 5) (j := 6) C ⟨rfl, rfl, by decide, by decide +kernel, by decide +kernel, rfl, by decide +kernel, by decide +kernel, by decide⟩ (by wtm_at "m") T.b_enumerate ?_
        wtm_at "w"
        refine ⟨ea, _, rfl, Z.SqL.of' h9, fun Lb H9 k nL2 hL2 => ?_⟩
        refine ⟨fun t H' => LcD X.K H8 Lb ((enumN "entry" (esOf qs d)).map hD) t H', .start k hL2, ?_, ?_, ?_⟩
        · rintro t H' _ I
          exact Z.SqL.of' (I.1.at0 h9)
        · rintro t y T1 H10 H11 hy I k4 nT hT
          obtain ⟨v, hv, rfl⟩ := map_at hy
          have hi := (List.getElem?_eq_some_iff.mp hv).1
          have hd1 : ((enumN "entry" (esOf qs d)).map hD)[t]? = some (hD (v, "entry", (t : Int))) := by
            rw [List.getElem?_map, enumN_at hi, List.getD_eq_getElem?_getD, hv]; rfl
          clear k
          refine ⟨T1, _, _, _, _, rfl, hT, by wtm_at "u", by wtm_at "u", ?_⟩
          intro s0 H0 c' cl fp C'
          wtm_at "w"
          intro t5 H12 k5 h5 _
          wtm_at "w"
          intro t6 H13 k6 h6 _
          exact I.fin nL2 ((k4.tr0 k5).tr0 k6) (noL_hD _) hd1 (.tup h6 (.cons (.int _) (.cons (.tup (k6.tup h5) (.cons (.str _) (.cons (.int _) .nil))) .nil))) (by omega)
        · rintro H10 ⟨k, us4, h30, d4⟩
          rw [List.length_map, List.take_of_length_le (by rw [List.length_map, enumN_len]; exact Nat.le_refl _)] at d4
          wtm_at "car"
          have lu4 := dpAll_len d4
          rw [List.length_map, enumN_len] at lu4
          refine ⟨h7, Lb, _, rfl, h30, sz_ (by rw [List.length_append]; omega), fun H11 k9 h11 => ?_⟩
          have k711 : Kp [L] H7 H11 := (hk.k.wk (fun l m => nomatch m)).tr k9 (fun l m => .inl m)
          wtm_at "w"
          refine q L _ H11 (hid7.tr1 k711 (.inr nL1)) nL1 h11 ?_
          unfold heldL
          rw [List.map_append]
          exact dpAll_app (dpAll_kpT k9 (noL_hD _) d3) (dpAll_kpT k9 (noL_hD _) d4)
end
/-! gapsL -/
section
local macro_rules | `(tactic| wtm_at "d") => `(tactic| fail)
local macro_rules | `(tactic| wtm_at "car") => `(tactic| ((try replace W := Z.car k W); (try replace x := Z.car k x); (try replace P := Z.car k P); (try replace li := Z.car k li); (try replace M := Z.car k M); (try replace hs := Z.car k hs); (try replace hd := Z.car k hd); (try replace hL := Z.car k hL); (try replace hx := Z.car k hx); (try replace hy := Z.car k hy); (try replace hz := Z.car k hz); (try replace hid := Z.car k hid); (try replace hsa := Z.car k hsa); (try replace ha := Z.car k ha); (try replace hk := Z.car k hk); (try replace h1 := Z.car k h1); (try replace h2 := Z.car k h2); (try replace h3 := Z.car k h3); (try replace h4 := Z.car k h4); (try replace h5 := Z.car k h5); (try replace h6 := Z.car k h6); (try replace h7 := Z.car k h7); (try replace h8 := Z.car k h8); (try replace d1 := Z.car k d1); (try replace d3 := Z.car k d3); (try replace d5 := Z.car k d5); (try replace d7 := Z.car k d7); clear k))
/-! gaps -/
def gapsAt (ks0 qs : List (Int × Addr × List Int)) (k : Int × Addr × List Int) : List (Int × Int) := ((heldL k.2.2 (esOf qs k.1)).filter fun x => decide (lkA ks0 x.1 = none)).map fun x => (k.1, x.1)
def gapsP (ks qs : List (Int × Addr × List Int)) : List (Int × Int) := ks.flatMap (gapsAt ks qs)
def prD (x : Int × Int) : PyData := .tuple [.int x.1, .int x.2]
theorem noL_prD : ∀ xs : List (Int × Int), noLs (xs.map prD) = true
  | [] => rfl
  | x :: r => by simp [noLs, noL, prD, noL_prD r]
theorem heldL_len {n f : Int} {ks qs : List (Int × Addr × List Int)} (kn : Know n f ks qs) {k : Int × Addr × List Int} (m : k ∈ ks) : (heldL k.2.2 (esOf qs k.1)).length ≤ 20500 := by
  have ll1 := listN_len (rs := k.2.2) "cite"
  have ll2 := listN_len (rs := k.2.2) "back"
  have lr := (kn.th k m).2.1.len
  have les : (esOf qs k.1).length ≤ 500 := by
    unfold esOf
    by_cases h4 : k.2.2.getD 0 0 = 4
    · obtain ⟨c, es, e1, _, _, _, e5⟩ := kn.hd k m h4
      rw [e1]; exact e5
    · rw [kn.no k m h4]; simp
  unfold heldL
  simp only [List.length_append, enumN_len]
  omega
def sp_gaps (K : PySem.W.Frag) (CL CM : Addr) : Sp := fun vs H Q _ => ∃ (a mx dR dE dx : Addr) (n f : Int) (ks qs : List (Int × Addr × List Int)), vs = [.ref a] ∧ LibRd K CL CM H a dx mx dR dE n f ks qs ∧ H dR = some (.dK (kvR ks)) ∧ (gapsP ks qs).length ≤ 90000 ∧ ∀ L us H', Kp [] H H' → H L = none → H' L = some (.lst us) → DpAll K H' us ((gapsP ks qs).map prD) → Q (.ref L) H'
theorem ok_gaps (T : Txt P w K mg base) : MetOk P w K mg base T.C_Library "gaps" ["self"] 4 (sp_gaps K T.C_Library T.C_Mixing) := by
  obtain ⟨fn, fd, M, F, bi⟩ := T.m_Library_gaps
  refine ⟨fn, fd, fnOk_by F sc_Library_gaps oc_Library_gaps (fun vs H Q E h => ?_) (fun X e1 e2 e3 e4 e5 C H vs Q E h => ?_), M, bi⟩
  · obtain ⟨a, mx, dR, dE, dx, n, f, ks, qs, rfl, _⟩ := h; rfl
  · obtain ⟨a, mx, dR, dE, dx, n, f, ks, qs, rfl, li, hR, lg, q⟩ := h
    wtm_at "go"
    wtm_at "w"
    intro L H1 k nL h1
    have hid : Fr [] H H1 := k
    have nq := li.nq nL
    have nL0 := nL
    have li : LibRd X.K T.C_Library T.C_Mixing H a dx mx dR dE n f ks qs := li
    have h2 := hR
    wtm_at "car"
    have neL : dR ≠ L := (ne_of h1 h2 (by intro z; cases z)).symm
    wtm_at "w"
    refine xs_forK C h2 (fun od H2 k e2 kun => ?_)
    have li2 := li.lock k e2 h2
    have h3 : H2 L = some (.lst []) := k.at1 neL.symm h1
    refine xe_fld ?_
    wtm_at "w"
    refine ⟨a, _, dx, _, _, rfl, li2.ha, T.cl_Library, T.na_Library__rows, lib_r mx dR dE, rfl, e2, fun i σ H' => ∃ (v2 v3 v4 : Option V) (us : List V), σ = [some (.ref a), some (.ref L), v2, v3, v4] ∧ Kp [L] H2 H' ∧ H' L = some (.lst us) ∧ DpAll X.K H' us (((ks.take i).flatMap (gapsAt ks qs)).map prD), ⟨_, _, _, [], rfl, Kp.refl _ _, h3, .nil⟩, ?_, ?_, ?_⟩
    · rintro i σ' H' _ ⟨v2, v3, v4, us, rfl, k, _⟩
      exact k.at1 neL e2
    · rintro i kk v σ' H3 hi ⟨v2, v3, v4, us, rfl, k, h4, d1⟩
      have hi' : i < ks.length := by
        have := (List.getElem?_eq_some_iff.mp hi).1
        unfold kvR at this; rw [List.length_map] at this; exact this
      have ekk : kk = .inl ks[i].1 := by
        unfold kvR at hi
        rw [List.getElem?_map, List.getElem?_eq_getElem hi'] at hi
        exact (Prod.mk.inj (Option.some.inj hi)).1.symm
      subst ekk
      have mem := List.getElem_mem hi'
      have hlk := li.kn.nd _ mem
      have lh := heldL_len li.kn mem
      have tk : (ks.take (i + 1)).flatMap (gapsAt ks qs) = (ks.take i).flatMap (gapsAt ks qs) ++ gapsAt ks qs ks[i] := by
        rw [List.take_add_one, List.getElem?_eq_getElem hi', List.flatMap_append, show (some ks[i]).toList = [ks[i]] from rfl, List.flatMap_cons, List.flatMap_nil, List.append_nil]
      have ltot : ((ks.take i).flatMap (gapsAt ks qs)).length + (gapsAt ks qs ks[i]).length ≤ 90000 := by
        have e : (gapsP ks qs).length = ((ks.take (i + 1)).flatMap (gapsAt ks qs)).length + ((ks.drop (i + 1)).flatMap (gapsAt ks qs)).length := by
          unfold gapsP
          rw [← List.length_append, ← List.flatMap_append, List.take_append_drop]
        rw [tk, List.length_append] at e
        omega
      generalize ks[i] = kk at mem hlk lh tk ltot
      have gA : gapsAt ks qs kk = ((heldL kk.2.2 (esOf qs kk.1)).filter fun x => decide (lkA ks x.1 = none)).map fun x => (kk.1, x.1) := rfl
      generalize eh : heldL kk.2.2 (esOf qs kk.1) = hs at lh gA
      refine xg_name C (by wtm_at "m") (by wtm_at "m") ?_
      refine ⟨_, by wtm_at "u", ?_⟩
      have li3 : LibRd X.K T.C_Library T.C_Mixing H3 a dx mx dR dE n f ks qs := li2.set h3 k nq
      have hk : Fr [L] H2 H3 := k
      have lu := dpAll_len d1
      rw [List.length_map] at lu
      clear k
      refine xb_cons ?_
      refine xs_forL (by assumption) ?_
      refine xe_meth (by assumption) (ok__held_by T) T.cl_Library (by omega) ?_
      wtm_at "w"
      refine ⟨a, dx, _, rfl, li3.ha, lib_no mx dR dE (by decide +kernel) (by decide +kernel) (by decide +kernel), ?_⟩
      wtm_at "w"
      refine ⟨a, mx, dR, dE, dx, kk.2.1, n, f, kk.1, kk.2.2, ks, qs, rfl, li3, hlk, fun L3 us3 H4 k n3 h5 d3 => ?_⟩
      have li4 := li3.kpN k (fun l m => nomatch m)
      have ne3 : L3 ≠ L := (ne_of_none h4 n3).symm
      wtm_at "car"
      rw [eh] at d3
      have lu3 := dpAll_len d3
      rw [List.length_map] at lu3
      refine ⟨L3, us3, rfl, Z.SqL.of' h5, fun j σ H' => ∃ (v3 v4 : Option V) (us : List V), σ = [some (.ref a), some (.ref L), some (.int kk.1), v3, v4] ∧ Kp [L] H4 H' ∧ H' L = some (.lst us) ∧ DpAll X.K H' us (((ks.take i).flatMap (gapsAt ks qs) ++ (((hs.take j).filter fun x => decide (lkA ks x.1 = none)).map fun x => (kk.1, x.1))).map prD), ⟨_, _, us, rfl, Kp.refl _ _, h4, by simpa using d1⟩, ?_, ?_, ?_⟩
      · rintro j σ' H' _ ⟨v3, v4, us, rfl, k, _⟩
        exact Z.SqL.of' (k.at1 ne3 h5)
      · rintro j y σ' H5 hy ⟨v3, v4, us', rfl, k5, h7, d7⟩
        have hj : j < hs.length := by rw [← lu3]; exact (List.getElem?_eq_some_iff.mp hy).1
        have tj : hs.take (j + 1) = hs.take j ++ [hs[j]] := by rw [List.take_add_one, List.getElem?_eq_getElem hj]; rfl
        obtain ⟨y', hy', dy⟩ := dpAll_at (dpAll_kpT k5 (noL_hD _) d3) (i := j) (d := hD hs[j]) (by rw [List.getElem?_map, List.getElem?_eq_getElem hj]; rfl)
        have ey : y' = y := Option.some.inj (hy'.symm.trans hy)
        subst ey
        have li5 := li4.set h4 k5 nq
        have lf : (((hs.take j).filter fun x => decide (lkA ks x.1 = none)).map fun x => (kk.1, x.1)).length ≤ 20500 := by
          rw [List.length_map]
          have := List.length_filter_le (fun x => decide (lkA ks x.1 = none)) (hs.take j)
          rw [List.length_take] at this; omega
        generalize hs[j] = hx at dy tj
        obtain ⟨sa, vs2, rfl, hsa, da⟩ := dp_tupI dy
        obtain ⟨x1, x2, rfl, e1, e2⟩ := dpAll2 da
        rw [dp_intI e1] at hsa
        clear dy da e1
        have hx5 : Fr [L] H4 H5 := k5
        clear k5
        have lu7 := dpAll_len d7
        rw [List.length_map, List.length_append] at lu7
        refine xg_tup C ⟨sa, _, rfl, hsa, rfl, ?_⟩
        wtm_at "w"
        refine xe_fld ?_
        wtm_at "w"
        refine ⟨a, _, dx, _, _, rfl, li5.ha, T.cl_Library, T.na_Library__rows, lib_r mx dR dE, ?_⟩
        refine vo_notInD C (.inl ⟨_, .inl hx.1, li5.hR, rfl, rfl⟩) ?_
        refine ex_bl ?_
        rw [valV_kvR]
        cases hz : lkA ks hx.1 with
        | none =>
          refine L2.iteT ?_
          wtm_at "w"
          intro t6 H6 k6 h6 _
          refine ⟨k6.at0 h7, Nat.lt_of_lt_of_le (m := 200000) (by omega) (by decide), fun H7 k7 h8 => ?_⟩
          wtm_at "w"
          refine ⟨_, _, _, rfl, (hx5.k.tr0 k6).tr k7 (fun l m => .inl m), h8, ?_⟩
          have ej : (ks.take i).flatMap (gapsAt ks qs) ++ (((hs.take (j + 1)).filter fun x => decide (lkA ks x.1 = none)).map fun x => (kk.1, x.1)) = ((ks.take i).flatMap (gapsAt ks qs) ++ (((hs.take j).filter fun x => decide (lkA ks x.1 = none)).map fun x => (kk.1, x.1))) ++ [(kk.1, hx.1)] := by
            rw [tj, List.filter_append, List.filter_cons, if_pos (by simp [hz]), List.filter_nil, List.map_append, List.append_assoc]; rfl
          rw [ej, List.map_append]
          have k67 : Kp [L] H5 H7 := (k6.wk (fun l m => nomatch m)).tr k7 (fun l m => .inl m)
          exact dpAll_app (dpAll_kpT k67 (noL_prD _) d7) (.cons (.tup (k7.tup h6) (.cons (.int _) (.cons (.int _) .nil))) .nil)
        | some z =>
          refine L2.iteF ?_
          wtm_at "w"
          refine ⟨_, _, us', rfl, hx5.k, h7, ?_⟩
          rw [tj, List.filter_append, List.filter_cons, if_neg (by simp [hz]), List.filter_nil, List.append_nil]
          exact d7
      · rintro σ' H5 ⟨v3, v4, us', rfl, k5, h7, d7⟩
        refine xb_nil ?_
        refine ⟨_, _, _, us', rfl, hk.k.tr k5 (fun l m => .inl m), h7, ?_⟩
        rw [tk, gA]
        rw [lu3, List.take_length] at d7
        exact d7
    · rintro σ' H3 ⟨v2, v3, v4, us, rfl, k, h4, d1⟩
      have e0 : (kvR ks).length = ks.length := by unfold kvR; rw [List.length_map]
      rw [e0, List.take_length] at d1
      have k2 : Kp [L] H1 (upd H3 dR (.dK (kvR ks))) := kun _ _ k
      have h5 : upd H3 dR (.dK (kvR ks)) L = some (.lst us) := by rw [upd_ne neL.symm]; exact h4
      have d5 : DpAll X.K (upd H3 dR (.dK (kvR ks))) us ((gapsP ks qs).map prD) := by
        have e3 : H3 dR = some (.frz od (.dK (kvR ks))) := k.at1 neL e2
        exact dpAll_updT (fun ys z => by rw [e3] at z; cases z) (fun o ys z => by rw [e3] at z; cases z) (noL_prD _) d1
      wtm_at "w"
      exact q L us _ (hid.k.tr1 k2 (.inr nL0)) nL0 h5 d5
def sp_isClosed (K : PySem.W.Frag) (CL CM : Addr) : Sp := fun vs H Q _ => ∃ (a mx dR dE dx : Addr) (n f : Int) (ks qs : List (Int × Addr × List Int)), vs = [.ref a] ∧ LibRd K CL CM H a dx mx dR dE n f ks qs ∧ H dR = some (.dK (kvR ks)) ∧ (gapsP ks qs).length ≤ 90000 ∧ ∀ H', Kp [] H H' → Q (.bl (decide (gapsP ks qs = []))) H'
theorem ok_is_closed (T : Txt P w K mg base) : MetOk P w K mg base T.C_Library "is_closed" ["self"] 5 (sp_isClosed K T.C_Library T.C_Mixing) := by
  obtain ⟨fn, fd, M, F, bi⟩ := T.m_Library_is_closed
  refine ⟨fn, fd, fnOk_by F sc_Library_is_closed oc_Library_is_closed (fun vs H Q E h => ?_) (fun X e1 e2 e3 e4 e5 C H vs Q E h => ?_), M, bi⟩
  · obtain ⟨a, mx, dR, dE, dx, n, f, ks, qs, rfl, _⟩ := h; rfl
  · obtain ⟨a, mx, dR, dE, dx, n, f, ks, qs, rfl, li, hR, lg, q⟩ := h
    wtm_at "go"
    refine xs_ret ?_
    refine xe_not ?_
    refine xe_meth0 (by assumption) (ok_gaps T) T.cl_Library (by omega) ?_
    wtm_at "w"
    refine ⟨a, dx, _, rfl, li.ha, lib_no mx dR dE (by decide +kernel) (by decide +kernel) (by decide +kernel), ?_⟩
    refine ⟨a, mx, dR, dE, dx, n, f, ks, qs, rfl, li, hR, lg, fun L us H1 k nL hL hd => ?_⟩
    have lu := dpAll_len hd
    rw [List.length_map] at lu
    refine vt_lst (Z.SqL.of' hL) ?_
    have e : (!(!us.isEmpty)) = decide (gapsP ks qs = []) := by
      cases us with
      | nil =>
        have : gapsP ks qs = [] := List.length_eq_zero_iff.mp lu.symm
        rw [this]; rfl
      | cons x r =>
        have : gapsP ks qs ≠ [] := fun z => by rw [z] at lu; simp at lu
        rw [decide_eq_false this]; rfl
    rw [e]
    exact q H1 k
end
/-! rowsP -/
section
local macro_rules | `(tactic| wtm_at "d") => `(tactic| fail)
/-! the rows of a paper; a paper that is checked -/
def tupD (r : List Int) : PyData := .tuple (r.map PyData.int)
theorem noLs_tup : ∀ rs : List (List Int), noLs (rs.map tupD) = true
  | [] => rfl
  | r :: rs => by simp [noLs, tupD, noL, noLs_ints, noLs_tup rs]
def sp_rowsOf (K : PySem.W.Frag) (CP : Addr) : Sp := fun vs H Q _ => ∃ (p : Addr) (first : List Int) (ss : List Stp), vs = [.ref p] ∧ PpAt K CP H p first ss ∧ ss.length ≤ 5000 ∧ ∀ L us H', Kp [] H H' → H L = none → H' L = some (.lst us) → DpAll K H' us ((first :: ss.map (·.1)).map tupD) → Q (.ref L) H'
theorem ok_rows_of (T : Txt P w K mg base) : DefOk P w K mg base "rows_of" ["paper"] 1 (sp_rowsOf K T.C_Paper) := by
  refine DefOk.by T.d_rows_of sc_rows_of oc_rows_of (fun vs H Q E h => ?_) (fun X e1 e2 e3 e4 e5 C H vs Q E h => ?_)
  · obtain ⟨p, first, ss, rfl, _⟩ := h; rfl
  · obtain ⟨p, first, ss, rfl, ⟨dx, fr, st, vs, h1, h2, h3, h4⟩, ls, q⟩ := h
    have lv : vs.length = ss.length := by rw [dpAll_len h3, List.length_map]
    wtm_at "go"
    refine xs_ret ?_
    refine xe_bin ?_
    refine xe_lst ?_
    refine xa_cons ?_
    refine xe_fld ?_
    wtm_at "w"
    refine ⟨p, _, dx, _, _, rfl, h1, T.cl_Paper, T.na_Paper_first, pap_f _ _, ?_⟩
    wtm_at "w"
    intro l1 H1 k1 n1 hl1
    have h11 := k1.at0 h1
    have h21 := k1.at0 h2
    have h31 := dpAll_kp k1 h3
    have h41 := k1.tup h4
    have hid1 : Kp [] H H1 ∧ True := ⟨k1, trivial⟩
    clear k1 h1 h2 h3 h4
    refine xe_lc C ?_
    refine xlc_L2 (Vs' := ["row"]) (G' := []) (nm := "row") (nm2 := "_") (i := 1) (j := 2) (by assumption) ⟨rfl, rfl, by decide, by decide +kernel, by decide +kernel, rfl, by decide +kernel, by decide +kernel, by decide⟩ ?_
    refine xe_fld ?_
    wtm_at "w"
    refine ⟨p, _, dx, _, _, rfl, h11, T.cl_Paper, T.na_Paper_steps, pap_s _ _, ?_⟩
    refine ⟨st, vs, rfl, Z.SqL.of' h21, fun L H2 k2 nL hL => ⟨fun t H' => LcD X.K H1 L ((ss.map (·.1)).map tupD) t H', .start k2 hL, ?_, ?_, ?_⟩⟩
    · rintro t H' _ I
      exact Z.SqL.of' (I.1.at0 h21)
    · rintro t y H3 hy I
      have hi : t < ss.length := by rw [← lv]; exact (List.getElem?_eq_some_iff.mp hy).1
      have hs : (ss.map stpD)[t]? = some (stpD ss[t]) := by rw [List.getElem?_map, List.getElem?_eq_getElem hi]; rfl
      obtain ⟨y', hy', hd⟩ := dpAll_at (dpAll_kp I.1 h31) hs
      have ey : y' = y := Option.some.inj (hy'.symm.trans hy)
      subst ey
      have hs2 : ((ss.map (·.1)).map tupD)[t]? = some (tupD ss[t].1) := by rw [List.getElem?_map, List.getElem?_map, List.getElem?_eq_getElem hi]; rfl
      generalize ss[t] = s at hd hs2
      obtain ⟨sa, us, rfl, hsa, da⟩ := dp_tupI hd
      obtain ⟨x1, x2, rfl, d1, d2⟩ := dpAll2 da
      clear k2
      refine ⟨sa, x1, x2, _, _, rfl, hsa, by wtm_at "u", by wtm_at "u", ?_⟩
      intro s0 H0 c' cl fp C'
      wtm_at "w"
      exact I.fin nL (Kp.refl _ _) (noLs_tup _) hs2 d1 (by omega)
    · rintro H3 ⟨k3, us, hus, hd⟩
      have lu := dpAll_len hd
      rw [List.length_take, List.length_map, List.length_map, lv] at lu
      rw [List.take_of_length_le (by rw [List.length_map, List.length_map]; omega)] at hd
      refine vo_catL (k3.at0 hl1) hus (sz_ (by simp; omega)) (fun p5 H5 k5 n5 h5 => ?_)
      exact q p5 _ H5 ((hid1.1.tr0 k3).tr0 k5) ((hid1.1.tr0 k3).n _ n5) h5 (.cons (dp_T ((k3.tr0 k5).tup h41)) (dpAll_kp k5 hd))
end
/-! readsR -/
section
local macro_rules | `(tactic| wtm_at "d") => `(tactic| first | ((with_reducible show Z.XE _ (PySem.Expr.Call (PySem.Expr.Name "list" _) (_ :: _) [] _) _ _ _); refine Z.xe_callTy (id := "list") (by assumption) (by wtm_at "m") T.b_list (by decide +kernel) ?_) | ((with_reducible show Z.XE _ (PySem.Expr.Name "list" _) _ _ _); refine Z.xe_ty (id := "list") (by assumption) (by wtm_at "m") T.b_list (by decide +kernel) ?_) | ((with_reducible show Z.XE _ (PySem.Expr.Call (PySem.Expr.Name "digest" _) (_ :: _) [] _) _ _ _); refine Z.xe_call (by assumption) (Law.ok_digest T) (by wtm_at "m") (by omega) ?_) | fail)
def sp_roR (K : PySem.W.Frag) (CL CM : Addr) : Sp := fun vs H Q _ => ∃ (a mx dR dE dx : Addr) (n f d : Int) (ks qs : List (Int × Addr × List Int)), vs = [.ref a, .int d] ∧ LibRd K CL CM H a dx mx dR dE n f ks qs ∧ Q (((lkA ks d).map fun z => V.ref z.1).getD .non) H
theorem ok_row_of (T : Txt P w K mg base) : MetOk P w K mg base T.C_Library "row_of" ["self", "digest"] 1 (sp_roR K T.C_Library T.C_Mixing) := by
  obtain ⟨fn, fd, M, F, bi⟩ := T.m_Library_row_of
  refine ⟨fn, fd, fnOk_by F sc_Library_row_of oc_Library_row_of (fun vs H Q E h => ?_) (fun X e1 e2 e3 e4 e5 C H vs Q E h => ?_), M, bi⟩
  · obtain ⟨a, mx, dR, dE, dx, n, f, d, ks, qs, rfl, _⟩ := h; rfl
  · obtain ⟨a, mx, dR, dE, dx, n, f, d, ks, qs, rfl, hL, q⟩ := h
    wtm_at "go"
    refine xs_ret ?_
    refine xe_dget1 (by assumption) ?_
    refine xe_fld ?_
    wtm_at "w"
    refine ⟨a, _, dx, _, _, rfl, hL.ha, T.cl_Library, T.na_Library__rows, lib_r mx dR dE, ?_⟩
    refine ⟨dR, rfl, ?_, ?_⟩
    · rcases hL.hR with z | ⟨o, z⟩
      · exact .inl ⟨_, .inl z⟩
      · exact .inl ⟨_, .inr ⟨o, z⟩⟩
    wtm_at "w"
    refine ⟨_, .inl ⟨_, .inl d, hL.hR, rfl, rfl⟩, ?_⟩
    rw [valV_kvR]
    exact q
def sp_eoR (K : PySem.W.Frag) (CL CM : Addr) : Sp := fun vs H Q _ => ∃ (a mx dR dE dx : Addr) (n f d : Int) (ks qs : List (Int × Addr × List Int)), vs = [.ref a, .int d] ∧ LibRd K CL CM H a dx mx dR dE n f ks qs ∧ (lkA qs d = none → Q .non H) ∧ (∀ z, lkA qs d = some z → ∀ p H', Kp [] H H' → H p = none → H' p = some (.lst (z.2.map V.int)) → Q (.ref p) H')
theorem ok_entries_of (T : Txt P w K mg base) : MetOk P w K mg base T.C_Library "entries_of" ["self", "digest"] 1 (sp_eoR K T.C_Library T.C_Mixing) := by
  obtain ⟨fn, fd, M, F, bi⟩ := T.m_Library_entries_of
  refine ⟨fn, fd, fnOk_by F sc_Library_entries_of oc_Library_entries_of (fun vs H Q E h => ?_) (fun X e1 e2 e3 e4 e5 C H vs Q E h => ?_), M, bi⟩
  · obtain ⟨a, mx, dR, dE, dx, n, f, d, ks, qs, rfl, _⟩ := h; rfl
  · obtain ⟨a, mx, dR, dE, dx, n, f, d, ks, qs, rfl, hL, q1, q2⟩ := h
    wtm_at "go"
    refine xs_if ?_
    refine xt_dnotin (by assumption) ?_
    wtm_at "w"
    refine xe_fld ?_
    wtm_at "w"
    refine ⟨a, _, dx, _, _, rfl, hL.ha, T.cl_Library, T.na_Library__entries, lib_e mx dR dE, ?_⟩
    refine ⟨dE, _, rfl, .inl ⟨_, .inl d, hL.hE, rfl, rfl⟩, ?_⟩
    rw [valV_kvR]
    cases hq : lkA qs d with
    | none =>
      refine L2.iteT ?_
      wtm_at "w"
      exact q1 hq
    | some z =>
      refine L2.iteF ?_
      wtm_at "w"
      refine xe_fld ?_
      wtm_at "w"
      refine ⟨a, _, dx, _, _, rfl, hL.ha, T.cl_Library, T.na_Library__entries, lib_e mx dR dE, ?_⟩
      wtm_at "w"
      refine vx_dict (by assumption) (v := .ref z.1) (.inl ⟨_, .inl d, hL.hE, rfl, by rw [valV_kvR, hq]; rfl⟩) ?_
      wtm_at "w"
      exact vc_listL (Z.SqL.of' (hL.ents _ (lkA_mem hq))) (fun p H1 k1 np h1 => q2 z hq p H1 k1 np h1)
end
/-! range3 -/
/-! for x in range(a, b, c) -/
section
variable {X : Cx} {σ : L2.St} {H : Hp} {N Vs Ls G : List Str} {k : Nat} {sc : Scope} {tg a b c : Expr} {p1 p2 pos : Pos} {nx : L2.St → Hp → Prop} {D : B3} {body : List Stmt}
theorem xs_forR3 (C : Ctx X sc N Vs Ls G k) (hg : Mem G "range") (hm : X.mg "range" = none) (h : XA X [a, b, c] σ H fun vs H1 => ∃ (l j d : Int) (n : Nat), vs = [.int l, .int j, .int d] ∧ RgC l j d n ∧ ∃ Pv : Nat → L2.St → Hp → Prop, Pv 0 σ H1 ∧
    (∀ i σ' H', i < n → Pv i σ' H' → XG X tg (.int (l + (i : Nat) * d)) σ' H' fun σ2 H2 => XB X body (Pv (i + 1)) ⟨D.rt, nx, Pv (i + 1)⟩ σ2 H2) ∧ ∀ σ' H', Pv n σ' H' → nx σ' H')
    (hst : starEach [a, b, c] X.env = (false, eval a X.env) :: starEach [b, c] X.env := by rfl) (hpl : (backTo p2 (starEach [b, c] X.env)).any (·.1) = false := by rfl)
    (hs : ∀ x, foldedSetIterable (.Call (.Name "range" p1) [a, b, c] [] p2) X.env x = pure x := by intro _; rfl) : XS X (.For tg (.Call (.Name "range" p1) [a, b, c] [] p2) body [] pos) nx D σ H := by
  refine ⟨_, ps_for C.po C.calm (pi_range3 (C.gl hg) hm XA.pa hst hpl) XG.pg XB.ps hs, ?_⟩
  refine XA.mono h fun v H1 ⟨l, j, d, n, e, h1, Pv, h0, hs, hd⟩ => ⟨l, j, d, n, e, h1, ?_⟩
  exact for_rangeC (lo := l) (c := d) (n := n) (D := ⟨nx, D.rt, D.bk, D.ct⟩) (g := XG X tg) (tb := fun D σ H => XB X body D.nx ⟨D.rt, D.bk, D.ct⟩ σ H) Pv h0 hs hd
end
/-! trace -/
section
local macro_rules | `(tactic| wtm_at "d") => `(tactic| first | ((with_reducible show Z.XE _ (PySem.Expr.Call (PySem.Expr.Name "len" _) (_ :: _) [] _) _ _ _); refine Z.xe_callB (id := "len") (by assumption) (by wtm_at "m") T.b_len (by decide +kernel) ?_) | ((with_reducible show Z.XE _ (PySem.Expr.Name "ENTRY" _) _ _ _); refine Z.xe_glob (v := L2.V.str "entry") (by assumption) (by wtm_at "m") T.c_ENTRY.choose_spec ⟨_, rfl⟩ ?_) | ((with_reducible show Z.XE _ (PySem.Expr.Call (PySem.Expr.Name "digest" _) (_ :: _) [] _) _ _ _); refine Z.xe_call (by assumption) (Law.ok_digest T) (by wtm_at "m") (by omega) ?_) | ((with_reducible show Z.XE _ (PySem.Expr.Call (PySem.Expr.Name "way_of" _) (_ :: _) [] _) _ _ _); refine Z.xe_call (by assumption) (Law.ok_way_of T) (by wtm_at "m") (by omega) ?_) | ((with_reducible show Z.XE _ (PySem.Expr.Call (PySem.Expr.Name "clash_of_ways" _) (_ :: _) [] _) _ _ _); refine Z.xe_call (by assumption) (Law.ok_clash_of_ways T) (by wtm_at "m") (by omega) ?_) | ((with_reducible show Z.XE _ (PySem.Expr.Call (PySem.Expr.Name "rows_of" _) (_ :: _) [] _) _ _ _); refine Z.xe_call (by assumption) (Law.ok_rows_of T) (by wtm_at "m") (by omega) ?_) | ((with_reducible show Z.XE _ (PySem.Expr.Call (PySem.Expr.Name "_clash_at" _) (_ :: _) [] _) _ _ _); refine Z.xe_call (by assumption) (Law.ok__clash_at T) (by wtm_at "m") (by omega) ?_) | ((with_reducible show Z.XE _ (PySem.Expr.Call (PySem.Expr.Name "_clash_in_tree" _) (_ :: _) [] _) _ _ _); refine Z.xe_call (by assumption) (Law.ok__clash_in_tree T) (by wtm_at "m") (by omega) ?_) | fail)
/-! traces -/
inductive Tr where
  | known
  | unknown (k : Nat)
  | clash (a b : List Int)
def trD : Tr → PyData
  | .known => .tuple [.str "known"]
  | .unknown k => .tuple [.str "unknown", .int k]
  | .clash a b => .tuple [.str "clash", .tuple (a.map PyData.int), .tuple (b.map PyData.int)]
def treeCl (n f : Int) (qs : List (Int × Addr × List Int)) (row : List Int) (p : Pl) (d : Int) : Option (List Int × List Int) :=
  if p.w = ("entry" : Str) then fdiff (nup n f (tn (esOf qs (dig n f row)).length p.i.toNat) ((esOf qs (dig n f row)).getD p.i.toNat 0) (wy n f (esOf qs (dig n f row)) p.i.toNat)).reverse (nup n f (tn (esOf qs (dig n f row)).length p.i.toNat) d p.way).reverse else none
def rowCl (n f : Int) (ks : List (Int × Addr × List Int)) (bs : List Int) : Option (List Int × List Int) := match lkA ks (dig n f bs) with
  | none => none
  | some z => if z.2 = bs then none else some (z.2, bs)
def clashAt (n f : Int) (ks qs : List (Int × Addr × List Int)) (bs row : List Int) (p : Pl) : Option (List Int × List Int) := (treeCl n f qs row p (dig n f bs)).or (rowCl n f ks bs)
/-- from the k-th step back -/
def traceAt (n f : Int) (ks qs : List (Int × Addr × List Int)) (rows : List (List Int)) (ss : List Stp) : Nat → Tr
  | 0 => .known
  | k + 1 => match ss[k]? with
    | none => .known
    | some s => match clashAt n f ks qs (rows.getD k []) s.1 s.2 with
      | some c => .clash c.1 c.2
      | none => if lkA ks (dig n f (rows.getD k [])) = none then .unknown (k + 1) else traceAt n f ks qs rows ss k
def traceN (n f : Int) (ks qs : List (Int × Addr × List Int)) (first : List Int) (ss : List Stp) : Tr := traceAt n f ks qs (first :: ss.map (·.1)) ss ss.length
/-- a known head's entries at such a step -/
theorem step_es {n f : Int} {ks qs : List (Int × Addr × List Int)} (kn : Know n f ks qs) {bs row : List Int} {p : Pl} {a : Addr} (hk : lkA ks (dig n f row) = some (a, row)) (hw : p.w = ("entry" : Str)) (h : stepWhy n f bs row p = none) : ∃ c es, lkA qs (dig n f row) = some (c, es) ∧ esOf qs (dig n f row) = es ∧ (es.length : Int) = row.getD 4 0 ∧ rt n f es = row.getD 5 0 ∧ 1 ≤ es.length ∧ es.length ≤ 500 ∧ 0 ≤ p.i ∧ p.i.toNat < es.length ∧ (tn es.length p.i.toNat).length = p.way.length ∧ cl n f (tn es.length p.i.toNat) (dig n f bs) p.way = rt n f es := by
  have mem := lkA_mem hk
  unfold stepWhy at h
  cases h1 : isThing row with
  | false => rw [h1] at h; cases h
  | true =>
    rw [h1, if_pos rfl] at h
    cases h2 : hasPl row p with
    | false => rw [h2] at h; cases h
    | true =>
      rw [h2, if_pos rfl] at h
      cases h3 : holdsB n f row p (dig n f bs) with
      | false => rw [h3] at h; cases h
      | true =>
        unfold hasPl at h2
        rw [if_pos hw] at h2
        obtain ⟨g1, g2, g3⟩ := of_decide_eq_true h2
        obtain ⟨c, es, e1, e2, e3, e4, e5⟩ := kn.hd _ mem g1
        have e2 : (es.length : Int) = row.getD 4 0 := e2
        unfold holdsB at h3
        rw [if_pos hw, Bool.and_eq_true] at h3
        have h4 := of_decide_eq_true h3.2
        unfold climbO at h4
        have el : (row.getD 4 0).toNat = es.length := by omega
        rw [el] at h4
        by_cases hl : (tn es.length p.i.toNat).length = p.way.length
        · rw [if_pos hl] at h4
          refine ⟨c, es, e1, by unfold esOf; rw [show lkA qs (dig n f row) = some (c, es) from e1], e2, e3, e4, e5, g2, by omega, hl, ?_⟩
          rw [Option.some.inj h4]; exact e3.symm
        · rw [if_neg hl] at h4; cases h4
def sp_ctree (K : PySem.W.Frag) (CL CM : Addr) : Sp := fun vs H Q _ => ∃ (a mx dR dE dx ra pa c : Addr) (n f d : Int) (ks qs : List (Int × Addr × List Int)) (rs es : List Int) (p : Pl), vs = [.ref a, .int d, .ref ra, .ref pa] ∧ LibRd K CL CM H a dx mx dR dE n f ks qs ∧ 0 < n ∧ SqT K H ra (rs.map V.int) ∧ PlAt K H pa p ∧ p.w = ("entry" : Str) ∧
  lkA qs (dig n f rs) = some (c, es) ∧ 1 ≤ es.length ∧ es.length ≤ 500 ∧ 0 ≤ p.i ∧ p.i.toNat < es.length ∧ (tn es.length p.i.toNat).length = p.way.length ∧ ∀ v H', Kp [] H H' → Dp K H' v (unD (treeCl n f qs rs p d)) → Q v H'
theorem ok__clash_in_tree (T : Txt P w K mg base) : DefOk P w K mg base "_clash_in_tree" ["library", "mark", "row", "place"] 15 (sp_ctree K T.C_Library T.C_Mixing) := by
  refine DefOk.by T.d__clash_in_tree sc__clash_in_tree oc__clash_in_tree (fun vs H Q E h => ?_) (fun X e1 e2 e3 e4 e5 C H vs Q E h => ?_)
  · obtain ⟨a, mx, dR, dE, dx, ra, pa, c, n, f, d, ks, qs, rs, es, p, rfl, _⟩ := h; rfl
  · obtain ⟨a, mx, dR, dE, dx, ra, pa, c, n, f, d, ks, qs, rs, es, p, rfl, li, hn, hr, hpl, hw, hq, l1, l5, i0, il, hl, q⟩ := h
    have t0 : treeCl n f qs rs p d = fdiff (nup n f (tn es.length p.i.toNat) (es.getD p.i.toNat 0) (wy n f es p.i.toNat)).reverse (nup n f (tn es.length p.i.toNat) d p.way).reverse := by
      unfold treeCl; rw [if_pos hw, show esOf qs (dig n f rs) = es by unfold esOf; rw [hq]]
    obtain ⟨r, hpa, hwa⟩ := hpl
    obtain ⟨wa, rfl, hww⟩ := hwa hw
    clear hwa
    have hwa := hww
    clear hww
    obtain ⟨pw, pi, pway⟩ := p
    dsimp only at *
    obtain ⟨i, rfl⟩ := Int.eq_ofNat_of_zero_le i0
    rw [Int.toNat_natCast] at il hl t0
    wtm_at "go"
    refine xs_set (by assumption) ?_ (hx := by wtm_at "m") (hl := by wtm_at "m")
    refine xe_fld ?_
    wtm_at "w"
    refine ⟨a, _, dx, _, _, rfl, li.ha, T.cl_Library, T.na_Library_mixing, lib_m mx dR dE, ?_⟩
    refine ⟨_, by wtm_at "u", ?_⟩
    refine xb_cons ?_
    refine xs_asg ?_
    wtm_at "w"
    refine xg_tup C ⟨pa, _, rfl, hpa, rfl, ?_⟩
    wtm_at "w"
    refine xe_meth (by assumption) (ok_entries_of T) T.cl_Library (by omega) ?_
    wtm_at "w"
    refine ⟨a, dx, _, rfl, li.ha, lib_no mx dR dE (by decide +kernel) (by decide +kernel) (by decide +kernel), ?_⟩
    wtm_at "w"
    refine ⟨mx, ra, n, f, rs, rfl, li.hx, hr, hn, ?_⟩
    wtm_at "w"
    refine ⟨a, mx, dR, dE, dx, n, f, _, ks, qs, rfl, li, fun h => (by rw [hq] at h; cases h), fun z hz e H1 k1 ne he => ?_⟩
    have ez : z = (c, es) := Option.some.inj (hz.symm.trans hq)
    rw [ez] at he
    have li1 := li.kpN k1 (fun l m => nomatch m)
    have hwa1 := k1.tup hwa
    have hid : Fr [] H H1 := k1
    clear li k1 hpa hr hz ez
    wtm_at "w"
    refine vx_lst (Z.SqL.of' he) (at_getD i il) ?_
    wtm_at "w"
    refine ⟨mx, e, n, f, es, i, rfl, li1.hx, he, il, by omega, hn, fun tw H2 k2 hw2 => ?_⟩
    have li2 := li1.kpN k2 (fun l m => nomatch m)
    have he2 := k2.at0 he
    have hwa2 := k2.tup hwa1
    have hid2 : Fr [] H H2 := hid.k.tr0 k2
    clear li1 k2 he hwa1 hid
    wtm_at "w"
    intro t3 H3 k3 ht3 _
    have li3 := li2.kpN k3 (fun l m => nomatch m)
    have he3 := k3.at0 he2
    have hwa3 := k3.tup hwa2
    have hw3 := k3.tup hw2
    have hid3 : Fr [] H H3 := hid2.k.tr0 k3
    clear li2 k3 he2 hwa2 hid2 hw2
    wtm_at "w"
    rw [List.length_map]
    intro t4 H4 k4 ht4 _
    have wl := wy_len n f 600 es i (by omega)
    wtm_at "w"
    refine ⟨mx, t3, t4, n, f, es.length, i, es.getD i 0, d, wy n f es i, pway, rfl, (li3.kpN k4 (fun l m => nomatch m)).hx, ⟨tw, k4.tup ht3, k4.tup hw3⟩, ⟨wa, ht4, k4.tup hwa3⟩, l1, by omega, il, by omega, hl, hn, fun v H5 k5 hv => ?_⟩
    refine q v H5 ((hid3.k.tr0 k4).tr0 k5) ?_
    rw [t0]; exact hv
def sp_clashAt (K : PySem.W.Frag) (CL CM : Addr) : Sp := fun vs H Q _ => ∃ (a mx dR dE dx ba ra pa za : Addr) (n f : Int) (ks qs : List (Int × Addr × List Int)) (bs rs : List Int) (p : Pl), vs = [.ref a, .ref ba, .ref ra, .ref pa] ∧ LibRd K CL CM H a dx mx dR dE n f ks qs ∧ 0 < n ∧ SqT K H ba (bs.map V.int) ∧ SqT K H ra (rs.map V.int) ∧ PlAt K H pa p ∧
  lkA ks (dig n f rs) = some (za, rs) ∧ stepWhy n f bs rs p = none ∧ ∀ v H', Kp [] H H' → Dp K H' v (unD (clashAt n f ks qs bs rs p)) → Q v H'
theorem ok__clash_at (T : Txt P w K mg base) : DefOk P w K mg base "_clash_at" ["library", "before", "row", "place"] 16 (sp_clashAt K T.C_Library T.C_Mixing) := by
  refine DefOk.by T.d__clash_at sc__clash_at oc__clash_at (fun vs H Q E h => ?_) (fun X e1 e2 e3 e4 e5 C H vs Q E h => ?_)
  · obtain ⟨a, mx, dR, dE, dx, ba, ra, pa, za, n, f, ks, qs, bs, rs, p, rfl, _⟩ := h; rfl
  · obtain ⟨a, mx, dR, dE, dx, ba, ra, pa, za, n, f, ks, qs, bs, rs, p, rfl, li, hn, hb, hr, hpl, hk, hs, q⟩ := h
    have rest : ∀ (c4 : Option V) (H1 : Hp), Kp [] H H1 → treeCl n f qs rs p (dig n f bs) = none → ∀ v5 v6, XB X ((defBody s__clash_at).drop 2) (fun _ H' => Q .non H') ⟨Q, fun _ _ => False, fun _ _ => False⟩ [some (.ref a), some (.ref ba), some (.ref ra), some (.ref pa), some (.int (dig n f bs)), v5, v6] H1 := by
      subst e1; subst e2; subst e3; subst e4; subst e5
      intro c4 H1 k1 ht v5 v6
      have li1 := li.kpN k1 (fun l m => nomatch m)
      have hb1 := k1.tup hb
      have c0 : clashAt n f ks qs bs rs p = rowCl n f ks bs := by unfold clashAt; rw [ht]; rfl
      refine xb_cons ?_
      refine xs_set (by assumption) ?_ (hx := by wtm_at "m") (hl := by wtm_at "m")
      refine xe_meth (by assumption) (ok_row_of T) T.cl_Library (by omega) ?_
      wtm_at "w"
      refine ⟨a, dx, _, rfl, li1.ha, lib_no mx dR dE (by decide +kernel) (by decide +kernel) (by decide +kernel), ?_⟩
      wtm_at "w"
      refine ⟨a, mx, dR, dE, dx, n, f, _, ks, qs, rfl, li1, ?_⟩
      refine ⟨_, by wtm_at "u", ?_⟩
      cases hz : lkA ks (dig n f bs) with
      | none =>
        have r0 : rowCl n f ks bs = none := by unfold rowCl; rw [hz]
        wtm_at "w"
        refine ite_d (fun _ => ?_) (fun e => absurd rfl e)
        wtm_at "w"
        refine q _ H1 k1 ?_
        rw [c0, r0]; exact .non
      | some z =>
        have r0 : rowCl n f ks bs = if z.2 = bs then none else some (z.2, bs) := by unfold rowCl; rw [hz]
        have hz1 := li1.rows _ (lkA_mem hz)
        wtm_at "w"
        refine ite_d (fun e => nomatch e) (fun _ => ?_)
        wtm_at "w"
        refine vo_eqT C (ns := z.2) (ms := bs) hz1 hb1 ?_
        wtm_at "w"
        refine ite_d (fun e => ?_) (fun e => ?_)
        · wtm_at "w"
          refine q _ H1 k1 ?_
          rw [c0, r0, if_pos e]; exact .non
        · wtm_at "w"
          intro t H2 k2 ht2 _
          refine q _ H2 (k1.tr0 k2) ?_
          rw [c0, r0, if_neg e]
          exact .tup ht2 (.cons (dp_T (k2.tup hz1)) (.cons (dp_T (k2.tup hb1)) .nil))
    wtm_at "go"
    wtm_at "w"
    refine xe_fld ?_
    wtm_at "w"
    refine ⟨a, _, dx, _, _, rfl, li.ha, T.cl_Library, T.na_Library_mixing, lib_m mx dR dE, ?_⟩
    wtm_at "w"
    refine ⟨mx, ba, n, f, bs, rfl, li.hx, hb, hn, ?_⟩
    obtain ⟨r, hpa, hwa⟩ := hpl
    wtm_at "w"
    refine ite_d (fun hw => ?_) (fun hw => ?_)
    · obtain ⟨c, es, s1, s2, s3, s4, s5, s6, s7, s8, s9, s10⟩ := step_es li.kn hk hw hs
      wtm_at "w"
      refine ⟨a, mx, dR, dE, dx, ra, pa, c, n, f, _, ks, qs, rs, es, p, rfl, li, hn, hr, ⟨r, hpa, hwa⟩, hw, s1, s5, s6, s7, s8, s9, fun v H1 k1 hv => ?_⟩
      refine ⟨_, by wtm_at "u", ?_⟩
      refine xb_cons ?_
      have hnon := unD_non hv
      cases ht : treeCl n f qs rs p (dig n f bs) with
      | none =>
        rw [ht] at hv hnon
        have ev := hnon.mpr rfl
        subst ev
        wtm_at "w"
        refine ite_nd (fun e => absurd rfl e) (fun _ => ?_)
        repeat refine xb_nil ?_
        exact rest none H1 k1 ht _ _
      | some c =>
        rw [ht] at hv hnon
        wtm_at "w"
        refine ite_nd (fun _ => ?_) (fun e => nomatch hnon.mp e)
        wtm_at "w"
        refine q v H1 k1 ?_
        unfold clashAt
        rw [ht]; exact hv
    · repeat refine xb_nil ?_
      exact rest none H (Kp.refl _ _) (by unfold treeCl; rw [if_neg hw]) _ _
theorem okW_at {n f : Int} : ∀ {ss : List Stp} {bs : List Int} {i : Nat} {s : Stp}, okW n f bs ss → ss[i]? = some s → stepWhy n f ((bs :: ss.map (·.1)).getD i []) s.1 s.2 = none
  | [], _, i, s, _, e => by simp at e
  | x :: r, bs, 0, s, h, e => by
    have : x = s := by simpa using e
    rw [← this]; exact h.1
  | x :: r, bs, i + 1, s, h, e => by
    have := okW_at (i := i) (s := s) h.2 (by simpa using e)
    exact this
theorem lastR_getD (ss : List Stp) (bs : List Int) : (bs :: ss.map (·.1)).getD ss.length [] = lastR bs ss := by
  rw [List.getD_eq_getElem?_getD, lastR_at]; rfl
theorem xs_at_refs {K : PySem.W.Frag} {H : Hp} {us : List V} {rs : List (List Int)} {i : Nat} (h : DpAll K H us (rs.map tupD)) (hi : i < rs.length) : ∃ p, us[i]? = some (.ref p) ∧ SqT K H p ((rs.getD i []).map V.int) := by
  obtain ⟨v, h1, h2⟩ := dpAll_at h (i := i) (d := tupD rs[i]) (by rw [List.getElem?_map, List.getElem?_eq_getElem hi]; rfl)
  obtain ⟨p, rfl, hp⟩ := dp_Tinv h2
  refine ⟨p, h1, ?_⟩
  rw [List.getD_eq_getElem?_getD, List.getElem?_eq_getElem hi]; exact hp
def sp_trace (K : PySem.W.Frag) (CL CM CP : Addr) : Sp := fun vs H Q _ => ∃ (a mx dR dE dx p za : Addr) (n f : Int) (ks qs : List (Int × Addr × List Int)) (first : List Int) (ss : List Stp), vs = [.ref a, .ref p] ∧ LibRd K CL CM H a dx mx dR dE n f ks qs ∧ 0 < n ∧ PpAt K CP H p first ss ∧ ss.length ≤ 5000 ∧ okW n f first ss ∧
  lkA ks (dig n f (lastR first ss)) = some (za, lastR first ss) ∧ ∀ v H', Kp [] H H' → Dp K H' v (trD (traceN n f ks qs first ss)) → Q v H'
theorem ok_trace (T : Txt P w K mg base) : DefOk P w K mg base "trace" ["library", "paper"] 18 (sp_trace K T.C_Library T.C_Mixing T.C_Paper) := by
  refine DefOk.by T.d_trace sc_trace oc_trace (fun vs H Q E h => ?_) (fun X e1 e2 e3 e4 e5 C H vs Q E h => ?_)
  · obtain ⟨a, mx, dR, dE, dx, p, za, n, f, ks, qs, first, ss, rfl, _⟩ := h; rfl
  · obtain ⟨a, mx, dR, dE, dx, p, za, n, f, ks, qs, first, ss, rfl, li, hn, hp, ls, ok, hl, q⟩ := h
    wtm_at "go"
    wtm_at "w"
    refine ⟨p, first, ss, rfl, hp, ls, fun L us H1 k1 nL hL hd => ?_⟩
    have li1 := li.kpN k1 (fun l m => nomatch m)
    obtain ⟨dp, fr, st, ws, g1, g2, g3, g4⟩ := hp.kp k1
    have lw := dpAll_len g3
    rw [List.length_map] at lw
    have hid : Fr [] H H1 := k1
    clear k1 li hp nL
    refine ⟨_, by wtm_at "u", ?_⟩
    refine xb_cons ?_
    refine xs_forR3 C (by wtm_at "m") T.b_range ?_
    refine xa_cons ?_
    refine xe_callB (id := "len") C (by wtm_at "m") T.b_len (by decide +kernel) ?_
    refine xa_cons ?_
    refine xe_fld ?_
    wtm_at "w"
    refine ⟨p, _, dp, _, _, rfl, g1, T.cl_Paper, T.na_Paper_steps, pap_s _ _, ?_⟩
    wtm_at "w"
    rw [lw]
    refine ⟨(ss.length : Int), 0, -1, ss.length, rfl, ?_, fun i σ H' => ∃ (v3 v4 v5 v6 v7 : Option V), σ = [some (.ref a), some (.ref p), some (.ref L), v3, v4, v5, v6, v7] ∧ Kp [] H1 H' ∧ (∃ z, lkA ks (dig n f ((first :: ss.map (·.1)).getD (ss.length - i) [])) = some (z, (first :: ss.map (·.1)).getD (ss.length - i) [])) ∧ traceN n f ks qs first ss = traceAt n f ks qs (first :: ss.map (·.1)) ss (ss.length - i), ⟨_, _, _, _, _, rfl, Kp.refl _ _, ⟨za, by rw [Nat.sub_zero, lastR_getD]; exact hl⟩, rfl⟩, ?_, ?_⟩
    · have := RgC.neg (i := (ss.length : Int)) (j := 0) (by omega) (by omega) (by decide) (by decide)
      rw [show ((ss.length : Int) - 0).toNat = ss.length by omega] at this
      exact this
    · rintro i σ' H2 hi ⟨v3, v4, v5, v6, v7, rfl, k2, ⟨z, hz⟩, et⟩
      obtain ⟨k, hk⟩ : ∃ k, ss.length - i = k + 1 := ⟨ss.length - i - 1, by omega⟩
      rw [hk] at et hz
      have ek : ss.length - (i + 1) = k := by omega
      have kl : k < ss.length := by omega
      have ei : (ss.length : Int) + (i : Nat) * (-1) = ((k + 1 : Nat) : Int) := by omega
      rw [ei]
      have hs : (ss.map stpD)[k]? = some (stpD ss[k]) := by rw [List.getElem?_map, List.getElem?_eq_getElem kl]; rfl
      obtain ⟨y, hy, dy⟩ := dpAll_at (dpAll_kp k2 g3) hs
      have gs : ss[k]? = some ss[k] := List.getElem?_eq_getElem kl
      have row1 : (first :: ss.map (·.1)).getD (k + 1) [] = ss[k].1 := by
        rw [List.getD_eq_getElem?_getD, List.getElem?_cons_succ, List.getElem?_map, gs]; rfl
      have hw := okW_at ok gs
      rw [row1] at hz
      rw [traceAt, gs] at et
      dsimp only at et
      generalize ss[k] = s at dy gs hw hz et
      obtain ⟨rs, pl⟩ := s
      obtain ⟨sa, vs2, rfl, hsa, da⟩ := dp_tupI dy
      obtain ⟨x1, x2, rfl, d1, d2⟩ := dpAll2 da
      obtain ⟨ra, rfl, hra⟩ := dp_Tinv d1
      obtain ⟨pa, rfl, hpa⟩ := PlAt.of d2
      obtain ⟨ba, hba, hbr⟩ := xs_at_refs (dpAll_kp k2 hd) (i := k) (by rw [List.length_cons, List.length_map]; omega)
      generalize eb : (first :: ss.map (·.1)).getD k [] = bs at hw hbr et
      have g12 := k2.at0 g1
      have g22 := k2.at0 g2
      have hL2 := k2.at0 hL
      have li2 := li1.kpN k2 (fun l m => nomatch m)
      have hid2 : Fr [] H1 H2 := k2
      clear k2 dy da d1 d2
      refine xg_name C (by wtm_at "m") (by wtm_at "m") ?_
      refine ⟨_, by wtm_at "u", ?_⟩
      refine xb_cons ?_
      refine xs_asg ?_
      refine xe_ix ?_
      refine xe_fld ?_
      wtm_at "w"
      refine ⟨p, _, dp, _, _, rfl, g12, T.cl_Paper, T.na_Paper_steps, pap_s _ _, ?_⟩
      wtm_at "w"
      rw [show ((k + 1 : Nat) : Int) - 1 = (k : Int) by omega]
      refine vx_lst (Z.SqL.of' g22) (atI_nat hy) ?_
      refine xg_tup C ⟨sa, _, rfl, hsa, rfl, ?_⟩
      wtm_at "w"
      rw [show ((k + 1 : Nat) : Int) - 1 = (k : Int) by omega]
      refine vx_lst (Z.SqL.of' hL2) (atI_nat hba) ?_
      wtm_at "w"
      refine ⟨a, mx, dR, dE, dx, ba, ra, pa, z, n, f, ks, qs, bs, rs, pl, rfl, li2, hn, hbr, hra, hpa, hz, hw, fun v H3 k3 hv => ?_⟩
      have hnon := unD_non hv
      have li3 := li2.kpN k3 (fun l m => nomatch m)
      have hbr3 := k3.tup hbr
      have k03 : Kp [] H H3 := (hid.k.tr0 hid2.k).tr0 k3
      have k13 : Kp [] H1 H3 := hid2.k.tr0 k3
      clear k3 li2
      refine ⟨_, by wtm_at "u", ?_⟩
      cases hc : clashAt n f ks qs bs rs pl with
      | some c =>
        rw [hc] at hv hnon et
        have tv : traceN n f ks qs first ss = .clash c.1 c.2 := et
        wtm_at "w"
        refine ite_nd (fun _ => ?_) (fun e => nomatch hnon.mp e)
        obtain ⟨ca, cb⟩ := c
        obtain ⟨ta, vs3, rfl, hta, da⟩ := dp_tupI hv
        have lv := dpAll_len da
        refine xb_cons ?_
        refine xs_ret ?_
        refine xe_tup ?_
        refine xa_cons ?_
        refine xe_str ?_
        wtm_at "w"
        refine ⟨ta, vs3, rfl, .inl hta, ?_⟩
        wtm_at "w"
        refine ⟨sz_ (by simp at lv ⊢; omega), fun t H4 k4 ht4 _ => ?_⟩
        refine q _ H4 (k03.tr0 k4) ?_
        rw [tv]
        rw [List.append_nil] at ht4
        exact .tup ht4 (.cons (.str _) (dpAll_kp k4 da))
      | none =>
        rw [hc] at hv hnon et
        have ev := hnon.mpr rfl
        subst ev
        dsimp only at et
        wtm_at "w"
        refine ite_nd (fun e => absurd rfl e) (fun _ => ?_)
        wtm_at "w"
        refine xe_meth (by assumption) (ok_row_of T) T.cl_Library (by omega) ?_
        wtm_at "w"
        refine ⟨a, dx, _, rfl, li3.ha, lib_no mx dR dE (by decide +kernel) (by decide +kernel) (by decide +kernel), ?_⟩
        wtm_at "w"
        refine xe_fld ?_
        wtm_at "w"
        refine ⟨a, _, dx, _, _, rfl, li3.ha, T.cl_Library, T.na_Library_mixing, lib_m mx dR dE, ?_⟩
        wtm_at "w"
        refine ⟨mx, ba, n, f, bs, rfl, li3.hx, hbr3, hn, ?_⟩
        wtm_at "w"
        refine ⟨a, mx, dR, dE, dx, n, f, _, ks, qs, rfl, li3, ?_⟩
        cases hq : lkA ks (dig n f bs) with
        | none =>
          rw [if_pos hq] at et
          wtm_at "w"
          refine ite_d (fun _ => ?_) (fun e => absurd rfl e)
          refine xb_cons ?_
          refine xs_ret ?_
          refine xe_tup ?_
          refine xa_cons ?_
          refine xe_str ?_
          wtm_at "w"
          intro t H4 k4 ht4 _
          refine q _ H4 (k03.tr0 k4) ?_
          rw [et]
          exact .tup ht4 (.cons (.str _) (.cons (.int _) .nil))
        | some z2 =>
          rw [if_neg (by rw [hq]; simp)] at et
          have ez : z2.2 = bs := by
            unfold clashAt at hc
            have h2 := (Option.or_eq_none_iff.mp hc).2
            unfold rowCl at h2
            rw [hq] at h2
            dsimp only at h2
            by_cases e : z2.2 = bs
            · exact e
            · rw [if_neg e] at h2; cases h2
          wtm_at "w"
          refine ite_d (fun e => nomatch e) (fun _ => ?_)
          repeat refine xb_nil ?_
          have et2 : traceN n f ks qs first ss = traceAt n f ks qs (first :: ss.map (·.1)) ss (ss.length - (i + 1)) := by rw [ek]; exact et
          have hz2 : ∃ z, lkA ks (dig n f ((first :: ss.map (·.1)).getD (ss.length - (i + 1)) [])) = some (z, (first :: ss.map (·.1)).getD (ss.length - (i + 1)) []) := ⟨z2.1, by rw [ek, eb, hq, ← ez]⟩
          exact ⟨_, _, _, _, _, rfl, k13, hz2, et2⟩
    · rintro σ' H2 ⟨v3, v4, v5, v6, v7, rfl, k2, _, et⟩
      rw [Nat.sub_self] at et
      refine xb_cons ?_
      refine xs_ret ?_
      refine xe_tup ?_
      refine xa_cons ?_
      refine xe_str ?_
      wtm_at "w"
      intro t H4 k4 ht4 _
      refine q _ H4 ((hid.k.tr0 k2).tr0 k4) ?_
      rw [et]
      exact .tup ht4 (.cons (.str _) .nil)
end
/-! fmem -/
/-! two nodes that are told are nodes -/
theorem fdiff_mem : ∀ {as bs : List (List Int)} {u v : List Int}, fdiff as bs = some (u, v) → u ∈ as ∧ v ∈ bs
  | [], _, _, _, h => by simp [fdiff] at h
  | _ :: _, [], _, _, h => by simp [fdiff] at h
  | a :: as, b :: bs, u, v, h => by
    rw [fdiff_cons] at h
    by_cases e : a = b
    · rw [if_pos e] at h
      have := fdiff_mem h
      exact ⟨List.mem_cons_of_mem _ this.1, List.mem_cons_of_mem _ this.2⟩
    · rw [if_neg e] at h
      have := Prod.mk.inj (Option.some.inj h)
      rw [← this.1, ← this.2]; exact ⟨List.mem_cons_self, List.mem_cons_self⟩
theorem nup_three {b f : Int} : ∀ {ss : List Bool} {e : Int} {ws : List Int}, ∀ r ∈ nup b f ss e ws, r.length = 3
  | [], _, _, r, m => by rw [nup_nil] at m; cases m
  | s :: ss, e, [], r, m => by simp [nup] at m
  | s :: ss, e, w :: ws, r, m => by
    rw [nup] at m
    rcases List.mem_cons.mp m with z | z
    · rw [z]; exact nodeOf_len _ _ _
    · exact nup_three r z
/-! tnpos -/
theorem tn_pos {c i : Nat} (h : 2 ≤ c) : 1 ≤ (tn c i).length := by
  by_cases hi : i < hf c
  · rw [tn_lo h hi]; simp
  · rw [tn_hi h hi]; simp
/-! plokD -/
/-! a place as the law makes them -/
def PlOk (p : Pl) : Prop := (p.w = ("cite" : Str) ∨ p.w = ("back" : Str) ∨ p.w = ("entry" : Str)) ∧ (¬ p.w = ("entry" : Str) → p.way = []) ∧ 0 ≤ p.i
instance : DecidableEq Pl := fun ⟨w, i, y⟩ ⟨w', i', y'⟩ => decidable_of_iff (w = w' ∧ i = i' ∧ y = y') ⟨fun ⟨a, b, c⟩ => by rw [a, b, c], fun h => by cases h; exact ⟨rfl, rfl, rfl⟩⟩
/-! plok -/
/-! places and steps as data that can be compared -/
theorem plD_ok {p : Pl} (h : PlOk p) : (plD p).canLay0 = true ∧ (plD p).depth ≤ 2 := by
  have c : PyData.canLay0 (.str p.w) = true := by
    rcases h.1 with e | e | e <;> rw [e] <;> decide +kernel
  unfold plD
  by_cases e : p.w = ("entry" : Str)
  · rw [if_pos e]
    refine ⟨?_, by simp only [PyData.depth, PyData.depthAll, depth_ints]; omega⟩
    simp only [PyData.canLay0, PyData.canLayAll0, canLay_ints, Bool.and_true]
    simpa [PyData.canLay0] using c
  · rw [if_neg e]
    refine ⟨?_, by simp only [PyData.depth, PyData.depthAll]; omega⟩
    simp only [PyData.canLay0, PyData.canLayAll0, Bool.and_true]
    simpa [PyData.canLay0] using c
theorem stps_ok : ∀ {ss : List Stp}, (∀ s ∈ ss, PlOk s.2) → PyData.canLayAll0 (ss.map stpD) = true ∧ PyData.depthAll (ss.map stpD) ≤ 3
  | [], _ => ⟨rfl, by simp [PyData.depthAll]⟩
  | s :: r, h => by
    obtain ⟨a, b⟩ := stps_ok (ss := r) (fun x m => h x (List.mem_cons_of_mem _ m))
    obtain ⟨c, d⟩ := plD_ok (h s List.mem_cons_self)
    rw [List.map_cons, PyData.canLayAll0, PyData.depthAll, a]
    refine ⟨?_, ?_⟩
    · simp [stpD, PyData.canLay0, PyData.canLayAll0, canLay_ints, c]
    · have : (stpD s).depth ≤ 3 := by
        simp only [stpD, PyData.depth, PyData.depthAll, depth_ints]; omega
      omega
theorem shPap {first : List Int} {ss : List Stp} {r : List PyData} (h : ∀ s ∈ ss, PlOk s.2) (hr : PyData.canLayAll0 r = true) (hd : PyData.depthAll r ≤ 20) : SeqAt.shaped (.tuple (.tuple (first.map PyData.int) :: .list (ss.map stpD) :: r)) = true ∧ SeqAt.shaped (.list (.tuple (first.map PyData.int) :: .list (ss.map stpD) :: r)) = true := by
  obtain ⟨a, b⟩ := stps_ok h
  have d : PyData.depthAll (.tuple (first.map PyData.int) :: .list (ss.map stpD) :: r) ≤ 20 := by
    simp only [PyData.depthAll, PyData.depth, depth_ints]; omega
  unfold SeqAt.shaped
  simp only [PyData.canLay0, PyData.canLayAll0, canLay_ints, a, hr, PyData.depth, Bool.and_self, Bool.true_and]
  exact ⟨decide_eq_true (by omega), decide_eq_true (by omega)⟩
theorem eqvAll_cons (a b : PyData) (x y : List PyData) : PyData.eqvAll (a :: x) (b :: y) = (PyData.eqv a b && PyData.eqvAll x y) := by rw [PyData.eqvAll]
theorem eqv_int (a b : Int) : PyData.eqv (.int a) (.int b) = decide (a = b) := by simp only [PyData.eqv]; by_cases e : a = b <;> simp [e]
theorem eqv_str (a b : Str) : PyData.eqv (.str a) (.str b) = decide (a = b) := by simp only [PyData.eqv]; by_cases e : a = b <;> simp [e]
theorem eqv_tup (x y : List PyData) : PyData.eqv (.tuple x) (.tuple y) = PyData.eqvAll x y := by rw [PyData.eqv]
theorem eqv_lst (x y : List PyData) : PyData.eqv (.list x) (.list y) = PyData.eqvAll x y := by rw [PyData.eqv]
theorem eqv_pl {p q : Pl} (hp : PlOk p) (hq : PlOk q) : PyData.eqv (plD p) (plD q) = decide (p = q) := by
  obtain ⟨w, i, y⟩ := p
  obtain ⟨w', i', y'⟩ := q
  have hp2 := hp.2
  have hq2 := hq.2
  dsimp only at hp2 hq2
  have nl : ∀ ds : List PyData, ds ≠ [] → PyData.eqvAll ds [] = false := fun ds h => by cases ds with
    | nil => exact absurd rfl h
    | cons _ _ => rw [PyData.eqvAll]; all_goals (intros; simp_all)
  have nl2 : ∀ ds : List PyData, ds ≠ [] → PyData.eqvAll [] ds = false := fun ds h => by cases ds with
    | nil => exact absurd rfl h
    | cons _ _ => rw [PyData.eqvAll]; all_goals (intros; simp_all)
  unfold plD
  by_cases e : w = ("entry" : Str)
  · by_cases e' : w' = ("entry" : Str)
    · rw [if_pos e, if_pos e', eqv_tup, eqvAll_cons, eqvAll_cons, eqvAll_cons, eqv_str, eqv_int, eqv_T, show PyData.eqvAll [] [] = true by rw [PyData.eqvAll], Bool.and_true, ← Bool.decide_and, ← Bool.decide_and]
      exact decide_eq_decide.mpr ⟨fun ⟨a, b, c⟩ => by rw [show w = w' from a, show i = i' from b, show y = y' from c], fun z => by cases z; exact ⟨rfl, rfl, rfl⟩⟩
    · rw [if_pos e, if_neg e', eqv_tup, eqvAll_cons, eqv_str, decide_eq_false (show ¬ w = w' from fun z => e' (z ▸ e)), Bool.false_and]
      exact (decide_eq_false (fun z => by cases z; exact e' e)).symm
  · by_cases e' : w' = ("entry" : Str)
    · rw [if_neg e, if_pos e', eqv_tup, eqvAll_cons, eqv_str, decide_eq_false (show ¬ w = w' from fun z => e (z ▸ e')), Bool.false_and]
      exact (decide_eq_false (fun z => by cases z; exact e e')).symm
    · rw [if_neg e, if_neg e', eqv_tup, eqvAll_cons, eqvAll_cons, eqv_str, eqv_int, show PyData.eqvAll [] [] = true by rw [PyData.eqvAll], Bool.and_true, ← Bool.decide_and]
      refine decide_eq_decide.mpr ⟨fun ⟨a, b⟩ => ?_, fun z => by cases z; exact ⟨rfl, rfl⟩⟩
      rw [hp2.1 e, hq2.1 e', show w = w' from a, show i = i' from b]
theorem eqv_stps : ∀ {a b : List Stp}, (∀ s ∈ a, PlOk s.2) → (∀ s ∈ b, PlOk s.2) → PyData.eqvAll (a.map stpD) (b.map stpD) = decide (a = b)
  | [], [], _, _ => by simp [PyData.eqvAll]
  | [], _ :: _, _, _ => by simp [PyData.eqvAll]
  | _ :: _, [], _, _ => by simp [PyData.eqvAll]
  | s :: a, t :: b, ha, hb => by
    rw [List.map_cons, List.map_cons, eqvAll_cons, eqv_stps (fun x m => ha x (List.mem_cons_of_mem _ m)) (fun x m => hb x (List.mem_cons_of_mem _ m))]
    unfold stpD
    rw [eqv_tup, eqvAll_cons, eqvAll_cons, eqv_T, eqv_pl (ha s List.mem_cons_self) (hb t List.mem_cons_self), show PyData.eqvAll [] [] = true by rw [PyData.eqvAll], Bool.and_true, ← Bool.decide_and, ← Bool.decide_and]
    refine decide_eq_decide.mpr ⟨fun ⟨⟨x, y⟩, z⟩ => ?_, fun z => by cases z; exact ⟨⟨rfl, rfl⟩, rfl⟩⟩
    rw [z, show s = t from Prod.ext x y]
/-! enumF -/
/-! counted entries: the first parts -/
theorem enumN_fst {w : Str} {l : List Int} : (enumN w l).map (fun x => x.1) = l := by
  unfold enumN
  rw [List.map_map]
  apply List.ext_getElem
  · simp
  · intro i h1 h2
    simp only [List.getElem_map, List.getElem_range, Function.comp]
    rw [List.getD_eq_getElem?_getD, List.getElem?_eq_getElem h2]; rfl
/-! tsnoc -/
/-! one more -/
theorem take_snoc {α : Type} {l : List α} {t : Nat} {x : α} (h : l[t]? = some x) : l.take (t + 1) = l.take t ++ [x] := by rw [List.take_add_one, h]; rfl
/-! inL -/
/-! membership in a list of data -/
theorem pls_ok : ∀ {ps : List Pl}, (∀ p ∈ ps, PlOk p) → PyData.canLayAll0 (ps.map plD) = true ∧ PyData.depthAll (ps.map plD) ≤ 2
  | [], _ => ⟨rfl, by simp [PyData.depthAll]⟩
  | p :: r, h => by
    obtain ⟨a, b⟩ := pls_ok (ps := r) (fun x m => h x (List.mem_cons_of_mem _ m))
    obtain ⟨c, d⟩ := plD_ok (h p List.mem_cons_self)
    rw [List.map_cons, PyData.canLayAll0, PyData.depthAll, a, c]
    exact ⟨rfl, by omega⟩
theorem sh_list {ds : List PyData} (h : PyData.canLayAll0 ds = true) (d : PyData.depthAll ds ≤ 20) : SeqAt.shaped (.list ds) = true := by
  unfold SeqAt.shaped
  simp only [PyData.canLay0, h, PyData.depth, Bool.true_and]
  exact decide_eq_true (by omega)
theorem sh_pl {p : Pl} (h : PlOk p) : SeqAt.shaped (plD p) = true := by
  obtain ⟨c, d⟩ := plD_ok h
  unfold SeqAt.shaped
  rw [c, Bool.true_and]
  exact decide_eq_true (by omega)
theorem rows_ok : ∀ rs : List (List Int), PyData.canLayAll0 (rs.map tupD) = true ∧ PyData.depthAll (rs.map tupD) ≤ 1
  | [] => ⟨rfl, by simp [PyData.depthAll]⟩
  | r :: rs => by
    obtain ⟨a, b⟩ := rows_ok rs
    rw [List.map_cons, PyData.canLayAll0, PyData.depthAll, a]
    refine ⟨by simp [tupD, PyData.canLay0, canLay_ints], ?_⟩
    have : (tupD r).depth = 1 := by simp [tupD, PyData.depth, depth_ints]
    omega
section
variable {X : Cx} {H : Hp} {Q : VK} {N Vs Ls G : List Str} {k : Nat} {sc : Scope} {v u : V} {d : PyData} {ds : List PyData}
theorem vo_inL (C : Ctx X sc N Vs Ls G k) (hd : Dp X.K H v d) (he : Dp X.K H u (.list ds)) (sd : SeqAt.shaped d = true) (se : SeqAt.shaped (.list ds) = true) (h : Q (.bl (ds.any fun z => PyData.eqv z d)) H) : VO X (compareOp .In) v u H Q := ⟨_, op_inD (by have := C.room.un; omega), d, ds, hd, he, sd, se, h⟩
theorem vo_notInL (C : Ctx X sc N Vs Ls G k) (hd : Dp X.K H v d) (he : Dp X.K H u (.list ds)) (sd : SeqAt.shaped d = true) (se : SeqAt.shaped (.list ds) = true) (h : Q (.bl (!ds.any fun z => PyData.eqv z d)) H) : VO X (compareOp .NotIn) v u H Q := ⟨_, op_notInD (by have := C.room.un; omega), d, ds, hd, he, sd, se, h⟩
end
/-! sound -/
/-! what is traced is sound -/
def KnR (n f : Int) (ks : List (Int × Addr × List Int)) (r : List Int) : Prop := ∃ z, lkA ks (dig n f r) = some (z, r)
def TrS (n f : Int) (ks qs : List (Int × Addr × List Int)) (rows : List (List Int)) (ss : List Stp) (k : Nat) : Tr → Prop
  | .known => ∀ j, j < k → KnR n f ks (rows.getD j [])
  | .clash a b => a ≠ b ∧ dig n f a = dig n f b
  | .unknown i => ∃ j s, i = j + 1 ∧ j < k ∧ ss[j]? = some s ∧ KnR n f ks s.1 ∧ lkA ks (dig n f (rows.getD j [])) = none ∧ treeCl n f qs s.1 s.2 (dig n f (rows.getD j [])) = none
theorem treeCl_some {n f : Int} {ks qs : List (Int × Addr × List Int)} (kn : Know n f ks qs) {bs rs u v : List Int} {p : Pl} (hk : KnR n f ks rs) (hw : stepWhy n f bs rs p = none) (h : treeCl n f qs rs p (dig n f bs) = some (u, v)) : u ≠ v ∧ dig n f u = dig n f v := by
  by_cases e : p.w = ("entry" : Str)
  · obtain ⟨z, hz⟩ := hk
    obtain ⟨c, es, s1, s2, s3, s4, s5, s6, s7, s8, s9, s10⟩ := step_es kn hz e hw
    unfold treeCl at h
    rw [if_pos e, s2] at h
    have hx : es[p.i.toNat]? = some (es.getD p.i.toNat 0) := by rw [List.getD_eq_getElem?_getD, List.getElem?_eq_getElem s8]; rfl
    have := up_some n f _ _ _ _ _ u v (wy_len n f 600 es p.i.toNat (by omega)).symm s9 (by rw [cl_wy n f 600 es p.i.toNat _ (by omega) hx, s10]) h
    exact ⟨this.1, this.2.1⟩
  · unfold treeCl at h
    rw [if_neg e] at h; cases h
theorem trace_sound {n f : Int} {ks qs : List (Int × Addr × List Int)} {first : List Int} {ss : List Stp} (kn : Know n f ks qs) (ok : okW n f first ss) : ∀ k, k ≤ ss.length → KnR n f ks ((first :: ss.map (·.1)).getD k []) → TrS n f ks qs (first :: ss.map (·.1)) ss k (traceAt n f ks qs (first :: ss.map (·.1)) ss k)
  | 0, _, _ => fun j h => absurd h (by omega)
  | k + 1, hk, hr => by
    have kl : k < ss.length := by omega
    have gs : ss[k]? = some ss[k] := List.getElem?_eq_getElem kl
    have row1 : (first :: ss.map (·.1)).getD (k + 1) [] = ss[k].1 := by
      rw [List.getD_eq_getElem?_getD, List.getElem?_cons_succ, List.getElem?_map, gs]; rfl
    have hw := okW_at ok gs
    rw [row1] at hr
    rw [traceAt, gs]
    dsimp only
    have ih := trace_sound kn ok k (by omega)
    generalize ss[k] = s at gs hw hr
    generalize (first :: ss.map (·.1)) = rows at hw ih ⊢
    cases hc : clashAt n f ks qs (rows.getD k []) s.1 s.2 with
    | some c =>
      obtain ⟨u, v⟩ := c
      show u ≠ v ∧ dig n f u = dig n f v
      unfold clashAt at hc
      cases ht : treeCl n f qs s.1 s.2 (dig n f (rows.getD k [])) with
      | some c2 =>
        rw [ht] at hc
        have e : c2 = (u, v) := Option.some.inj hc
        subst e
        exact treeCl_some kn hr hw ht
      | none =>
        rw [ht] at hc
        have h2 : rowCl n f ks (rows.getD k []) = some (u, v) := hc
        unfold rowCl at h2
        cases hq : lkA ks (dig n f (rows.getD k [])) with
        | none => rw [hq] at h2; cases h2
        | some z =>
          rw [hq] at h2
          dsimp only at h2
          by_cases e : z.2 = rows.getD k []
          · rw [if_pos e] at h2; cases h2
          · rw [if_neg e] at h2
            have e2 := Prod.mk.inj (Option.some.inj h2)
            rw [← e2.1, ← e2.2]
            exact ⟨e, (kn.ky _ (lkA_mem hq)).symm⟩
    | none =>
      dsimp only
      unfold clashAt at hc
      have h1 := (Option.or_eq_none_iff.mp hc).1
      have h2 := (Option.or_eq_none_iff.mp hc).2
      by_cases hq : lkA ks (dig n f (rows.getD k [])) = none
      · rw [if_pos hq]
        exact ⟨k, s, rfl, by omega, gs, hr, hq, h1⟩
      · rw [if_neg hq]
        have hk2 : KnR n f ks (rows.getD k []) := by
          unfold rowCl at h2
          cases hz : lkA ks (dig n f (rows.getD k [])) with
          | none => exact absurd hz hq
          | some z =>
            rw [hz] at h2
            dsimp only at h2
            by_cases e : z.2 = rows.getD k []
            · exact ⟨z.1, by rw [hz, ← e]⟩
            · rw [if_neg e] at h2; cases h2
        have := ih hk2
        cases ht : traceAt n f ks qs rows ss k with
        | known =>
          rw [ht] at this
          intro j hj
          by_cases e : j = k
          · rw [e]; exact hk2
          · exact this j (by omega)
        | clash a b => rw [ht] at this; exact this
        | unknown i =>
          rw [ht] at this
          obtain ⟨j, s', a1, a2, a3⟩ := this
          exact ⟨j, s', a1, by omega, a3⟩
theorem getD_memL {α : Type} {l : List α} {i : Nat} {x d : α} (h : i < l.length) (e : x = l.getD i d) : x ∈ l := by
  rw [e, List.getD_eq_getElem?_getD, List.getElem?_eq_getElem h]; exact List.getElem_mem h
/-- a digest that is held and not known is a gap -/
theorem gap_mem {n f : Int} {ks qs : List (Int × Addr × List Int)} (kn : Know n f ks qs) {bs rs : List Int} {p : Pl} (hk : KnR n f ks rs) (hw : stepWhy n f bs rs p = none) (ht : treeCl n f qs rs p (dig n f bs) = none) (hn : lkA ks (dig n f bs) = none) : (dig n f rs, dig n f bs) ∈ gapsP ks qs := by
  obtain ⟨z, hz⟩ := hk
  have hd : dig n f bs ∈ (heldL rs (esOf qs (dig n f rs))).map (fun x => x.1) := by
    unfold heldL
    rw [List.map_append, List.map_append, enumN_fst, enumN_fst, enumN_fst]
    by_cases e : p.w = ("entry" : Str)
    · obtain ⟨c, es, s1, s2, s3, s4, s5, s6, s7, s8, s9, s10⟩ := step_es kn hz e hw
      rw [s2]
      apply List.mem_append_right
      have hx : es[p.i.toNat]? = some (es.getD p.i.toNat 0) := by rw [List.getD_eq_getElem?_getD, List.getElem?_eq_getElem s8]; rfl
      unfold treeCl at ht
      rw [if_pos e, s2] at ht
      have wl := wy_len n f 600 es p.i.toNat (by omega)
      by_cases t0 : tn es.length p.i.toNat = []
      · have w0 : p.way = [] := List.length_eq_zero_iff.mp (by rw [← s9, t0]; rfl)
        have h1 : ¬ 2 ≤ es.length := fun h => by have := tn_pos (i := p.i.toNat) h; rw [t0] at this; simp at this
        rw [t0, w0, cl_nil, rt_one h1] at s10
        rw [s10]
        cases es with
        | nil => simp at s5
        | cons y ys => exact List.mem_cons_self
      · have := up_none n f _ _ _ _ _ wl.symm s9 t0 ht
        exact getD_memL s8 this.1.symm
    · apply List.mem_append_left
      unfold stepWhy at hw
      cases h1 : isThing rs with
      | false => rw [h1] at hw; cases hw
      | true =>
        rw [h1, if_pos rfl] at hw
        cases h2 : hasPl rs p with
        | false => rw [h2] at hw; cases hw
        | true =>
          rw [h2, if_pos rfl] at hw
          cases h3 : holdsB n f rs p (dig n f bs) with
          | false => rw [h3] at hw; cases hw
          | true =>
            unfold holdsB at h3
            rw [if_neg e] at h3
            have h4 := of_decide_eq_true h3
            unfold heldO at h4
            rw [if_neg (fun o => o.elim e (fun o => by rw [h2] at o; cases o))] at h4
            unfold hasPl at h2
            rw [if_neg e] at h2
            obtain ⟨i0, i1⟩ := of_decide_eq_true h2
            have hm : dig n f bs ∈ listN rs p.w := getD_memL (i := p.i.toNat) (by omega) (Option.some.inj h4).symm
            by_cases ec : p.w = ("cite" : Str)
            · rw [ec] at hm; exact List.mem_append_left _ hm
            · by_cases eb : p.w = ("back" : Str)
              · rw [eb] at hm; exact List.mem_append_right _ hm
              · unfold listN at hm
                rw [if_neg (fun o => ec o.1), if_neg (fun o => eb o.1)] at hm
                cases hm
  unfold gapsP
  refine List.mem_flatMap.mpr ⟨_, lkA_mem hz, ?_⟩
  unfold gapsAt
  obtain ⟨x, hx, ex⟩ := List.mem_map.mp hd
  exact List.mem_map.mpr ⟨x, List.mem_filter.mpr ⟨hx, decide_eq_true (by rw [ex]; exact hn)⟩, by rw [ex]⟩
theorem eqv_rows {rs : List (List Int)} {r : List Int} : ((rs.map tupD).any fun z => PyData.eqv z (.tuple (r.map PyData.int))) = decide (r ∈ rs) := by
  induction rs with
  | nil => rfl
  | cons x rs ih =>
    rw [List.map_cons, List.any_cons, ih]
    unfold tupD
    rw [eqv_T]
    by_cases e : x = r
    · rw [decide_eq_true e, Bool.true_or, decide_eq_true]; rw [e]; exact List.mem_cons_self
    · rw [decide_eq_false e, Bool.false_or]
      apply decide_eq_decide.mpr
      constructor
      · exact fun h => List.mem_cons_of_mem _ h
      · intro h
        rcases List.mem_cons.mp h with z | z
        · exact absurd z.symm e
        · exact z
/-! sound2 -/
/-! what is traced, once more: whose rows clash -/
theorem nup_3 {b f : Int} : ∀ {ss : List Bool} {e : Int} {ws : List Int}, ∀ x ∈ nup b f ss e ws, x.getD 0 0 = 3 ∧ x.length = 3
  | [], e, ws, x, m => by rw [nup_nil] at m; cases m
  | s :: ss, e, [], x, m => by rw [nup] at m; cases m; exact fun _ _ _ => nofun
  | s :: ss, e, w :: ws, x, m => by
    rw [nup] at m
    rcases List.mem_cons.mp m with z | z
    · rw [z]; unfold nodeOf; by_cases h : s = true
      · rw [if_pos h]; exact ⟨rfl, rfl⟩
      · rw [if_neg h]; exact ⟨rfl, rfl⟩
    · exact nup_3 x z
theorem treeCl_3 {n f : Int} {qs : List (Int × Addr × List Int)} {rs u v : List Int} {p : Pl} {d : Int} (h : treeCl n f qs rs p d = some (u, v)) : u.getD 0 0 = 3 ∧ u.length = 3 ∧ v.length = 3 := by
  unfold treeCl at h
  by_cases e : p.w = ("entry" : Str)
  · rw [if_pos e] at h
    have a := nup_3 u (List.mem_reverse.mp (fdiff_mem h).1)
    exact ⟨a.1, a.2, (nup_3 v (List.mem_reverse.mp (fdiff_mem h).2)).2⟩
  · rw [if_neg e] at h; cases h
def ClS (n f : Int) (ks : List (Int × Addr × List Int)) (rows : List (List Int)) (a b : List Int) : Prop := a ≠ b ∧ dig n f a = dig n f b ∧ ((a.getD 0 0 = 3 ∧ a.length = 3 ∧ b.length = 3) ∨ (0 < a.length ∧ KnR n f ks a ∧ b ∈ rows))
def TrS2 (n f : Int) (ks qs : List (Int × Addr × List Int)) (rows : List (List Int)) (ss : List Stp) (k : Nat) : Tr → Prop
  | .known => ∀ j, j < k → KnR n f ks (rows.getD j [])
  | .clash a b => ClS n f ks rows a b
  | .unknown i => ∃ j s, i = j + 1 ∧ j < k ∧ ss[j]? = some s ∧ KnR n f ks s.1 ∧ lkA ks (dig n f (rows.getD j [])) = none ∧ treeCl n f qs s.1 s.2 (dig n f (rows.getD j [])) = none
theorem trace_sound2 {n f : Int} {ks qs : List (Int × Addr × List Int)} {first : List Int} {ss : List Stp} (kn : Know n f ks qs) (ok : okW n f first ss) : ∀ k, k ≤ ss.length → KnR n f ks ((first :: ss.map (·.1)).getD k []) → TrS2 n f ks qs (first :: ss.map (·.1)) ss k (traceAt n f ks qs (first :: ss.map (·.1)) ss k)
  | 0, _, _ => fun j h => absurd h (by omega)
  | k + 1, hk, hr => by
    have kl : k < ss.length := by omega
    have gs : ss[k]? = some ss[k] := List.getElem?_eq_getElem kl
    have row1 : (first :: ss.map (·.1)).getD (k + 1) [] = ss[k].1 := by
      rw [List.getD_eq_getElem?_getD, List.getElem?_cons_succ, List.getElem?_map, gs]; rfl
    have hw := okW_at ok gs
    rw [row1] at hr
    rw [traceAt, gs]
    dsimp only
    have ih := trace_sound2 kn ok k (by omega)
    have bm : (first :: ss.map (·.1)).getD k [] ∈ first :: ss.map (·.1) := getD_memL (by rw [List.length_cons, List.length_map]; omega) rfl
    generalize ss[k] = s at gs hw hr
    generalize (first :: ss.map (·.1)) = rows at hw ih bm ⊢
    cases hc : clashAt n f ks qs (rows.getD k []) s.1 s.2 with
    | some c =>
      obtain ⟨u, v⟩ := c
      show ClS n f ks rows u v
      unfold clashAt at hc
      cases ht : treeCl n f qs s.1 s.2 (dig n f (rows.getD k [])) with
      | some c2 =>
        rw [ht] at hc
        have e : c2 = (u, v) := Option.some.inj hc
        subst e
        have a := treeCl_some kn hr hw ht
        have b := treeCl_3 ht
        exact ⟨a.1, a.2, .inl b⟩
      | none =>
        rw [ht] at hc
        have h2 : rowCl n f ks (rows.getD k []) = some (u, v) := hc
        unfold rowCl at h2
        cases hq : lkA ks (dig n f (rows.getD k [])) with
        | none => rw [hq] at h2; cases h2
        | some z =>
          rw [hq] at h2
          dsimp only at h2
          by_cases e : z.2 = rows.getD k []
          · rw [if_pos e] at h2; cases h2
          · rw [if_neg e] at h2
            have e2 := Prod.mk.inj (Option.some.inj h2)
            rw [← e2.1, ← e2.2]
            have ky := kn.ky _ (lkA_mem hq)
            have th := (kn.th _ (lkA_mem hq)).1
            refine ⟨e, ky.symm, .inr ⟨isThing_pos th, ⟨z.1, ?_⟩, bm⟩⟩
            rw [← ky]; exact hq
    | none =>
      dsimp only
      unfold clashAt at hc
      have h1 := (Option.or_eq_none_iff.mp hc).1
      have h2 := (Option.or_eq_none_iff.mp hc).2
      by_cases hq : lkA ks (dig n f (rows.getD k [])) = none
      · rw [if_pos hq]
        exact ⟨k, s, rfl, by omega, gs, hr, hq, h1⟩
      · rw [if_neg hq]
        have hk2 : KnR n f ks (rows.getD k []) := by
          unfold rowCl at h2
          cases hz : lkA ks (dig n f (rows.getD k [])) with
          | none => exact absurd hz hq
          | some z =>
            rw [hz] at h2
            dsimp only at h2
            by_cases e : z.2 = rows.getD k []
            · exact ⟨z.1, by rw [hz, ← e]⟩
            · rw [if_neg e] at h2; cases h2
        have := ih hk2
        cases ht : traceAt n f ks qs rows ss k with
        | known =>
          rw [ht] at this
          intro j hj
          by_cases e : j = k
          · rw [e]; exact hk2
          · exact this j (by omega)
        | clash a b => rw [ht] at this; exact this
        | unknown i =>
          rw [ht] at this
          obtain ⟨j, s', a1, a2, a3⟩ := this
          exact ⟨j, s', a1, by omega, a3⟩
/-! trdP -/
/-! what a trace says, compared -/
theorem sh_tr (t : Tr) : SeqAt.shaped (trD t) = true := by
  have c1 : PyData.canLay0 (.str "known") = true := by decide +kernel
  have c2 : PyData.canLay0 (.str "unknown") = true := by decide +kernel
  have c3 : PyData.canLay0 (.str "clash") = true := by decide +kernel
  cases t with
  | known => unfold SeqAt.shaped trD; rw [PyData.canLay0, PyData.canLayAll0, c1]; simp [PyData.canLayAll0, PyData.depth, PyData.depthAll]
  | unknown k => unfold SeqAt.shaped trD; rw [PyData.canLay0, PyData.canLayAll0, c2]; simp [PyData.canLayAll0, PyData.canLay0, PyData.depth, PyData.depthAll]
  | clash a b => unfold SeqAt.shaped trD; rw [PyData.canLay0, PyData.canLayAll0, c3]; simp [PyData.canLayAll0, PyData.canLay0, PyData.depth, PyData.depthAll, canLay_ints, depth_ints]
def isKn : Tr → Bool
  | .known => true
  | _ => false
theorem eqv_kn (t : Tr) : PyData.eqv (trD t) (.tuple [.str "known"]) = isKn t := by
  have n1 : ¬ ("unknown" : Str) = "known" := by decide +kernel
  have n2 : ¬ ("clash" : Str) = "known" := by decide +kernel
  cases t with
  | known => rw [trD, eqv_tup, eqvAll_cons, eqv_str, decide_eq_true rfl]; rw [PyData.eqvAll]; rfl
  | unknown k => rw [trD, eqv_tup, eqvAll_cons, eqv_str, decide_eq_false n1]; rfl
  | clash a b => rw [trD, eqv_tup, eqvAll_cons, eqv_str, decide_eq_false n2]; rfl
/-! _law_trace_ok -/
section
local macro_rules | `(tactic| wtm_at "d") => `(tactic| first | ((with_reducible show Z.XE _ (PySem.Expr.Call (PySem.Expr.Name "isinstance" _) (_ :: _) [] _) _ _ _); refine Z.xe_callB (id := "isinstance") (by assumption) (by wtm_at "m") T.b_isinstance (by decide +kernel) ?_) | ((with_reducible show Z.XE _ (PySem.Expr.Call (PySem.Expr.Name "len" _) (_ :: _) [] _) _ _ _); refine Z.xe_callB (id := "len") (by assumption) (by wtm_at "m") T.b_len (by decide +kernel) ?_) | ((with_reducible show Z.XE _ (PySem.Expr.Call (PySem.Expr.Name "tuple" _) (_ :: _) [] _) _ _ _); refine Z.xe_callTy (id := "tuple") (by assumption) (by wtm_at "m") T.b_tuple (by decide +kernel) ?_) | ((with_reducible show Z.XE _ (PySem.Expr.Name "tuple" _) _ _ _); refine Z.xe_ty (id := "tuple") (by assumption) (by wtm_at "m") T.b_tuple (by decide +kernel) ?_) | ((with_reducible show Z.XE _ (PySem.Expr.Call (PySem.Expr.Name "_law_digest" _) (_ :: _) [] _) _ _ _); refine Z.xe_call (by assumption) (Law.ok__law_digest T) (by wtm_at "m") (by omega) ?_) | fail)
/-! the law's word on what was traced -/
def TrW3 (n f : Int) (ws : List KN) (rows : List (List Int)) : Tr → Prop
  | .known => ∀ r ∈ rows, ∃ u, lkW ws (dig n f r) = some u ∧ u.2.2.2.1 = r
  | .clash a b => a ≠ b ∧ dig n f a = dig n f b ∧ 0 < a.length ∧ a.length ≤ 10000 ∧ b.length ≤ 10000 ∧ (a.getD 0 0 = 3 ∨ ((∃ u, lkW ws (dig n f a) = some u ∧ u.2.2.2.1 = a) ∧ b ∈ rows))
  | .unknown _ => False
def sp_tok (K : PySem.W.Frag) : Sp := fun vs H Q _ => ∃ (m S pp fr st : Addr) (tv : V) (n f : Int) (ws : List KN) (first : List Int) (ss : List Stp) (us : List V) (t : Tr), vs = [.ref m, .ref S, tv, .ref pp] ∧ SqT K H m [.int n, .int f] ∧ 0 < n ∧ DkAt H S (seenK ws) ∧ (∀ x ∈ ws, SqT K H x.2.1 (x.2.2.2.1.map V.int)) ∧ H pp = some (.lst [.ref fr, .ref st]) ∧ SqT K H fr (first.map V.int) ∧ SqL K H st us ∧ DpAll K H us (ss.map stpD) ∧ ss.length ≤ 10 ∧ (∀ r ∈ first :: ss.map (·.1), r.length ≤ 10000) ∧ Dp K H tv (trD t) ∧ TrW3 n f ws (first :: ss.map (·.1)) t ∧ ∀ H', Kp [] H H' → Q (.bl true) H'
theorem ok__law_trace_ok (T : Txt P w K mg base) : DefOk P w K mg base "_law_trace_ok" ["m", "known", "told", "paper"] 14 (sp_tok K) := by
  refine DefOk.by T.d__law_trace_ok sc__law_trace_ok oc__law_trace_ok (fun vs H Q E h => ?_) (fun X e1 e2 e3 e4 e5 C H vs Q E h => ?_)
  · obtain ⟨m, S, pp, fr, st, tv, n, f, ws, first, ss, us, t, rfl, _⟩ := h; rfl
  · obtain ⟨m, S, pp, fr, st, tv, n, f, ws, first, ss, us, t, rfl, hm, hn, hS, hw, hp, hf, hst, hd, ls, rl, htv, tw, q⟩ := h
    have lus := dpAll_len hd
    rw [List.length_map] at lus
    wtm_at "go"
    wtm_at "w"
    intro l1 H1 k1 nl1 hl1
    have hst1 := k1.lst0 hst
    have hd1 := dpAll_kp k1 hd
    have hp1 := k1.at0 hp
    have kH1 : Fr [] H H1 := k1
    clear k1
    wtm_at "w"
    refine xe_lc C ?_
    refine xlc_L (Vs' := ["step"]) (G' := []) (nm := "step") (i := 5) C ⟨rfl, by decide +kernel, by decide +kernel, rfl, by decide +kernel, by decide⟩ ?_
    wtm_at "w"
    refine ⟨st, us, rfl, hst1, fun L2' H2 k2 nL2 hL2 => ⟨fun i H' => Kp [] H1 H' ∧ ∃ vs, H' L2' = some (.lst vs) ∧ DpAll X.K H' vs (((ss.map (·.1)).take i).map tupD), ⟨k2, [], hL2, .nil⟩, ?_, ?_, ?_⟩⟩
    · rintro i H' _ ⟨k, _⟩
      exact k.lst0 hst1
    · rintro i y H3 hy ⟨k3, vs, h3, d3⟩
      clear k2
      have hi : i < ss.length := by rw [← lus]; exact (List.getElem?_eq_some_iff.mp hy).1
      obtain ⟨y', hy', dy⟩ := dpAll_at (dpAll_kp k3 hd1) (i := i) (d := stpD ss[i]) (by rw [List.getElem?_map, List.getElem?_eq_getElem hi]; rfl)
      have ey : y' = y := Option.some.inj (hy'.symm.trans hy)
      subst ey
      have gs : (ss.map (·.1))[i]? = some ss[i].1 := by rw [List.getElem?_map, List.getElem?_eq_getElem hi]; rfl
      generalize ss[i] = s at dy gs
      obtain ⟨sa, vs2, rfl, hsa, da⟩ := dp_tupI dy
      obtain ⟨x1, x2, rfl, d1, d2⟩ := dpAll2 da
      obtain ⟨ra, rfl, hra⟩ := dp_Tinv d1
      have lv := dpAll_len d3
      rw [List.length_map, List.length_take] at lv
      have hid : Fr [] H1 H3 := k3
      clear k3 dy da d1 d2
      refine ⟨_, by wtm_at "u", ?_⟩
      intro s0 H0 c' cl fp C'
      wtm_at "w"
      refine ⟨vs, h3, szl (by omega), fun H4 k4 h4 => ⟨hid.k.tr1 k4 (.inr nL2), _, h4, ?_⟩⟩
      rw [take_snoc gs, List.map_append]
      exact dpAll_app (dpAll_kpT k4 (noLs_tup _) d3) (.cons (dp_T (k4.tup hra)) .nil)
    rintro H3 ⟨k3, vs, h3, d3⟩
    clear k2 hL2
    rw [lus, ← List.length_map (f := fun s : Stp => s.1) (as := ss), List.take_length] at d3
    have lv := dpAll_len d3
    rw [List.length_map, List.length_map] at lv
    refine vo_catL (k3.at0 hl1) h3 (sz_ (by simp; omega)) (fun R H4 k4 nR hR => ?_)
    have hf4 := k4.tup (k3.tup (kH1.k.tup hf))
    have dR : DpAll X.K H4 (.ref fr :: vs) ((first :: ss.map (·.1)).map tupD) := .cons (dp_T hf4) (dpAll_kp k4 d3)
    have hR : H4 R = some (.lst (.ref fr :: vs)) := hR
    have kH4 : Fr [] H H4 := (kH1.k.tr0 k3).tr0 k4
    have hm4 := kH4.k.tup hm
    have hS4 := hS.kpN kH4.k (fun _ m => nomatch m)
    have hw4 : ∀ x ∈ ws, SqT X.K H4 x.2.1 (x.2.2.2.1.map V.int) := fun x mx => kH4.k.tup (hw x mx)
    have htv4 := dp_kp kH4.k htv
    generalize V.ref fr :: vs = rv at dR hR
    clear k3 k4 h3 d3 hl1 hst1 hd1 kH1 lv nR hf4 hp1
    refine ⟨_, by wtm_at "u", ?_⟩
    refine xb_cons ?_
    refine xs_if ?_
    refine xt_cmp ?_
    wtm_at "w"
    refine xe_str ?_
    wtm_at "w"
    intro t2 H5 k5 ht2 _
    have htv5 := dp_kp k5 htv4
    have kH5 : Fr [] H H5 := kH4.k.tr0 k5
    have hR5 := k5.at0 hR
    have dR5 := dpAll_kp k5 dR
    have hm5 := k5.tup hm4
    have hS5 := hS4.kpN k5 (fun _ m => nomatch m)
    have hw5 : ∀ x ∈ ws, SqT X.K H5 x.2.1 (x.2.2.2.1.map V.int) := fun x mx => k5.tup (hw4 x mx)
    clear k5 htv4 hR dR hm4 hS4 hw4 kH4
    refine vo_eqD C htv5 (.tup ht2 (.cons (.str _) .nil)) (sh_tr t) (sh_tr .known) ?_
    rw [eqv_kn]
    refine ex_bl ?_
    cases t with
    | known =>
      refine L2.iteT ?_
      refine xb_cons ?_
      refine xs_ret ?_
      refine xe_cmp ?_
      refine xe_callB (id := "len") C (by wtm_at "m") T.b_len (by decide +kernel) ?_
      refine xa_cons ?_
      refine xe_lc C ?_
      refine xlc_L (Vs' := ["row", "known", "m"]) (G' := ["_law_digest"]) (nm := "row") (i := 6) C ⟨rfl, by decide +kernel, by decide +kernel, rfl, by decide +kernel, by decide⟩ ?_
      wtm_at "w"
      refine ⟨R, rv, rfl, Z.SqL.of' hR5, fun L H6 k6 nL hL6 => ⟨fun i H' => Kp [] H5 H' ∧ H' L = some (.lst []), ⟨k6, hL6⟩, ?_, ?_, ?_⟩⟩
      · rintro i H' _ ⟨k, _⟩
        exact Z.SqL.of' (k.at0 hR5)
      · rintro i y H7 hy ⟨k7, h7⟩
        clear k6
        have lr := dpAll_len dR5
        rw [List.length_map] at lr
        have hi : i < (first :: ss.map (·.1)).length := by rw [← lr]; exact (List.getElem?_eq_some_iff.mp hy).1
        obtain ⟨p, hp1, hp2⟩ := xs_at_refs (dpAll_kp k7 dR5) hi
        have ey : V.ref p = y := Option.some.inj (hp1.symm.trans hy)
        subst ey
        have mem := getD_memL (d := []) hi rfl
        obtain ⟨u, hu1, hu2⟩ := tw _ mem
        have rl1 := rl _ mem
        generalize (first :: ss.map (·.1)).getD i [] = row at hp2 hu1 hu2 rl1
        have hm7 := k7.tup hm5
        have hS7 := hS5.kpN k7 (fun _ m => nomatch m)
        have hu7 := k7.tup (hw5 u (lkW_mem hu1).1)
        have hid : Fr [] H5 H7 := k7
        clear k7 mem
        refine ⟨_, by wtm_at "u", ?_⟩
        intro s0 H0 c' cl fp C'
        wtm_at "w"
        refine xe_dget2 (by assumption) ?_
        wtm_at "w"
        refine ⟨S, rfl, .inl ⟨_, hS7⟩, ?_⟩
        wtm_at "w"
        refine ⟨m, p, n, f, row, rfl, hm7, hp2, hn, by omega, fun H8 k8 => ?_⟩
        have hS8 := hS7.kpN k8 (fun _ m => nomatch m)
        have hp8 := k8.tup hp2
        have hu8 := k8.tup hu7
        have hid8 : Fr [] H5 H8 := hid.k.tr0 k8
        have h8 := k8.at0 h7
        clear k8 hS7 hp2 hu7 hid h7 hm7
        wtm_at "w"
        refine ⟨_, .inl ⟨_, .inl (dig n f row), hS8, rfl, rfl⟩, ?_⟩
        rw [valV_seenK, hu1]
        wtm_at "w"
        refine vo_neT C' hu8 hp8 ?_
        rw [decide_eq_true hu2]
        refine ex_bl ?_
        refine L2.iteF ?_
        exact ⟨hid8.k, h8⟩
      · rintro H7 ⟨k7, h7⟩
        wtm_at "w"
        exact q H7 (kH5.k.tr0 k7)
    | clash a b =>
      obtain ⟨hne, hdg, a0, al, bl, hab⟩ := tw
      obtain ⟨ta, vs2, rfl, hta, da⟩ := dp_tupI htv5
      obtain ⟨x0, x1, x2, rfl, d0, d1, d2⟩ := dpAll3 da
      rw [dp_strI d0] at hta
      obtain ⟨pa, rfl, hpa⟩ := dp_Tinv d1
      obtain ⟨pb, rfl, hpb⟩ := dp_Tinv d2
      refine L2.iteF ?_
      refine xb_nil ?_
      refine xb_cons ?_
      wtm_at "w"
      refine vc_isi (t := "tuple") (u := true) (ty_T hta) (by decide +kernel) ?_
      wtm_at "w"
      refine ite_nd (fun h => absurd (by simp) h) (fun _ => ?_)
      wtm_at "w"
      refine xe_str ?_
      wtm_at "w"
      refine ite_nd (fun h => absurd rfl h) (fun _ => ?_)
      wtm_at "w"
      refine vo_eqT C hpa hpb ?_
      rw [decide_eq_false hne]
      wtm_at "w"
      refine ⟨m, pa, n, f, a, rfl, hm5, hpa, hn, al, fun H6 k6 => ?_⟩
      have hta6 := k6.tup hta
      have hpa6 := k6.tup hpa
      have hpb6 := k6.tup hpb
      have hm6 := k6.tup hm5
      have kH6 : Fr [] H5 H6 := k6
      clear k6
      wtm_at "w"
      refine ⟨m, pb, n, f, b, rfl, hm6, hpb6, hn, bl, fun H7 k7 => ?_⟩
      have hta7 := k7.tup hta6
      have hpa7 := k7.tup hpa6
      have hpb7 := k7.tup hpb6
      have hm7 := k7.tup hm6
      have kH7 : Fr [] H5 H7 := kH6.k.tr0 k7
      clear k7 kH6 hta6 hpa6 hpb6 hm6
      wtm_at "w"
      refine ite_nd (fun h => absurd hdg h) (fun _ => ?_)
      wtm_at "w"
      refine vx_tup hpa7 (at_getD 0 (by omega)) ?_
      wtm_at "w"
      refine ite_d (fun h3 => ?_) (fun h3 => ?_)
      · wtm_at "w"
        exact q H7 (kH5.k.tr0 kH7.k)
      · obtain ⟨⟨u, hu1, hu2⟩, hb⟩ := hab.resolve_left h3
        have hS7 := hS5.kpN kH7.k (fun _ m => nomatch m)
        have hu7 := kH7.k.tup (hw5 u (lkW_mem hu1).1)
        wtm_at "w"
        refine xe_dget2 (by assumption) ?_
        wtm_at "w"
        refine ⟨S, rfl, .inl ⟨_, hS7⟩, ?_⟩
        wtm_at "w"
        refine ⟨m, pa, n, f, a, rfl, hm7, hpa7, hn, al, fun H8 k8 => ?_⟩
        have hS8 := hS7.kpN k8 (fun _ m => nomatch m)
        have hta8 := k8.tup hta7
        have hpa8 := k8.tup hpa7
        have hpb8 := k8.tup hpb7
        have hu8 := k8.tup hu7
        have hR8 := k8.at0 (kH7.k.at0 hR5)
        have dR8 := dpAll_kp k8 (dpAll_kp kH7.k dR5)
        have kH8 : Fr [] H5 H8 := kH7.k.tr0 k8
        clear k8 hS7 hta7 hpa7 hpb7 hu7 kH7 hm7
        wtm_at "w"
        refine ⟨_, .inl ⟨_, .inl (dig n f a), hS8, rfl, rfl⟩, ?_⟩
        rw [valV_seenK, hu1]
        wtm_at "w"
        refine vo_eqT C hu8 hpa8 ?_
        rw [decide_eq_true hu2]
        wtm_at "w"
        obtain ⟨ro1, ro2⟩ := rows_ok (first :: ss.map (·.1))
        refine vo_inL C (dp_T hpb8) (.lst (Z.SqL.of' hR8) dR8) (shT _) (sh_list ro1 (by omega)) ?_
        rw [eqv_rows, decide_eq_true hb]
        wtm_at "w"
        exact q H8 (kH5.k.tr0 kH8.k)
    | unknown i => exact tw.elim
end
/-! trw -/
/-! in a library without gaps: what is traced is what the law says -/
def ksW (ws : List KN) : List (Int × Addr × List Int) := ws.map fun w => (w.1, w.2.1, w.2.2.2.1)
theorem lkA_ksW (x : Int) : ∀ ws : List KN, lkA (ksW ws) x = (lkW ws x).map fun w => (w.2.1, w.2.2.2.1)
  | [] => rfl
  | w :: r => by
    rw [lkW]
    show lkA ((w.1, w.2.1, w.2.2.2.1) :: ksW r) x = _
    rw [lkA]
    by_cases e : w.1 = x
    · rw [if_pos e, if_pos e]; rfl
    · rw [if_neg e, if_neg e, lkA_ksW x r]
theorem knR_lkW {n f : Int} {ws : List KN} {r : List Int} (h : KnR n f (ksW ws) r) : ∃ u, lkW ws (dig n f r) = some u ∧ u.2.2.2.1 = r := by
  obtain ⟨z, h⟩ := h
  rw [lkA_ksW] at h
  cases hu : lkW ws (dig n f r) with
  | none => rw [hu] at h; cases h
  | some u =>
    rw [hu] at h
    exact ⟨u, rfl, (Prod.mk.inj (Option.some.inj h)).2⟩
theorem trw_of {n f : Int} {ws : List KN} {qs : List (Int × Addr × List Int)} {first : List Int} {ss : List Stp} (know : Know n f (ksW ws) qs) (ok : okW n f first ss) (gl : gapsP (ksW ws) qs = []) (hl : KnR n f (ksW ws) ((first :: ss.map (·.1)).getD ss.length [])) (rl : ∀ r ∈ first :: ss.map (·.1), r.length ≤ 10000) (wl : ∀ x ∈ ws, x.2.2.2.1.length ≤ 10000) : TrW3 n f ws (first :: ss.map (·.1)) (traceN n f (ksW ws) qs first ss) := by
  have h := trace_sound2 know ok ss.length (Nat.le_refl _) hl
  unfold traceN
  cases ht : traceAt n f (ksW ws) qs (first :: ss.map (·.1)) ss ss.length with
  | known =>
    rw [ht] at h
    intro r mr
    obtain ⟨j, hj, e⟩ := List.getElem_of_mem mr
    have hj2 : j ≤ ss.length := by rw [List.length_cons, List.length_map] at hj; omega
    have er : (first :: ss.map (·.1)).getD j [] = r := by rw [List.getD_eq_getElem?_getD, List.getElem?_eq_getElem hj]; exact e
    rw [← er]
    by_cases e2 : j = ss.length
    · rw [e2]; exact knR_lkW hl
    · exact knR_lkW (h j (by omega))
  | clash a b =>
    rw [ht] at h
    obtain ⟨h1, h2, h3⟩ := h
    rcases h3 with ⟨a1, a2, a3⟩ | ⟨a1, a2, a3⟩
    · exact ⟨h1, h2, by omega, by omega, by omega, .inl a1⟩
    · obtain ⟨u, u1, u2⟩ := knR_lkW a2
      exact ⟨h1, h2, a1, by rw [← u2]; exact wl u (lkW_mem u1).1, rl b a3, .inr ⟨⟨u, u1, u2⟩, a3⟩⟩
  | unknown i =>
    rw [ht] at h
    obtain ⟨j, s, e, hj, gs, hk, hn, htr⟩ := h
    have g := gap_mem know hk (okW_at ok gs) htr hn
    rw [gl] at g
    exact nomatch g
/-! know80 -/
/-! a library of a world's known things -/
theorem Wt.why {n f : Int} {row es : List Int} (h : Wt n f row es) : rowWhy n f row es = none := by
  unfold rowWhy
  rw [if_pos h.thing]
  have : fitsB n f row es = true := by
    unfold fitsB
    cases h with
    | beacon h v => rfl
    | doc cs bs => rfl
    | renew d => rfl
    | head s k h es bs =>
      rw [if_pos (show (rowH n f s k h es bs).getD 0 0 = 4 from rfl)]
      exact decide_eq_true ⟨rfl, rfl⟩
  rw [if_pos this]
def QsW (ws : List KN) (qs : List (Int × Addr × List Int)) : Prop := ∀ w ∈ ws, (w.2.2.2.1.getD 0 0 = 4 → ∃ c, lkA qs w.1 = some (c, w.2.2.2.2)) ∧ (¬ w.2.2.2.1.getD 0 0 = 4 → lkA qs w.1 = none)
theorem QsW.add {ws : List KN} {qs : List (Int × Addr × List Int)} {x : KN} {c : Addr} (h : QsW ws qs) (hf : ∀ w ∈ ws, w.1 ≠ x.1) (hq : lkA qs x.1 = none) : QsW (ws ++ [x]) (if x.2.2.2.1.getD 0 0 = 4 then qs ++ [(x.1, c, x.2.2.2.2)] else qs) := by
  intro w mw
  by_cases e : x.2.2.2.1.getD 0 0 = 4
  · rw [if_pos e]
    rcases List.mem_append.mp mw with z | z
    · rw [lkA_app hq, if_neg (Ne.symm (hf w z))]; exact h w z
    · rw [List.mem_singleton.mp z, lkA_app hq, if_pos rfl]
      exact ⟨fun _ => ⟨c, rfl⟩, fun z => absurd e z⟩
  · rw [if_neg e]
    rcases List.mem_append.mp mw with z | z
    · exact h w z
    · rw [List.mem_singleton.mp z]
      exact ⟨fun z => absurd z e, fun _ => hq⟩
theorem know_W {n f : Int} {ws : List KN} {qs : List (Int × Addr × List Int)} (hk : ∀ w ∈ ws, w.1 = dig n f w.2.2.2.1 ∧ Wt n f w.2.2.2.1 w.2.2.2.2) (nd : (ws.map fun w => w.1).Nodup) (hq : QsW ws qs) (only : ∀ x, lkA (ksW ws) x = none → lkA qs x = none) : Know n f (ksW ws) qs := by
  have mm : ∀ k ∈ ksW ws, ∃ w ∈ ws, k = (w.1, w.2.1, w.2.2.2.1) := fun k mk => by
    obtain ⟨w, mw, e⟩ := List.mem_map.mp mk
    exact ⟨w, mw, e.symm⟩
  refine ⟨fun k mk => ?_, fun k mk => ?_, fun k mk => ?_, fun k mk h4 => ?_, fun k mk h4 => ?_, only⟩
  · obtain ⟨w, mw, rfl⟩ := mm k mk; exact (hk w mw).1
  · obtain ⟨w, mw, rfl⟩ := mm k mk
    show lkA (ksW ws) w.1 = _
    rw [lkA_ksW, lkW_nd nd w mw]; rfl
  · obtain ⟨w, mw, rfl⟩ := mm k mk
    have wt := (hk w mw).2
    refine ⟨wt.thing, wt.ok, fun e => ?_⟩
    show 0 ≤ w.2.2.2.1.getD 2 0 ∧ w.2.2.2.1.getD 2 0 < 2 ^ 69
    have e : w.2.2.2.1.getD 0 0 = 4 := e
    generalize w.2.2.2.1 = row at wt e ⊢
    generalize w.2.2.2.2 = es at wt
    cases wt with
    | beacon h v h0 => exact absurd e (by show ¬ (1 : Int) = 4; decide)
    | doc cs bs => exact absurd e (by show ¬ (2 : Int) = 4; decide)
    | renew d d0 => exact absurd e (by show ¬ (5 : Int) = 4; decide)
    | head s k h es bs s0 k0 k1 => exact ⟨k0, Int.lt_of_le_of_lt k1 (by decide)⟩
  · obtain ⟨w, mw, rfl⟩ := mm k mk
    have wt := (hk w mw).2
    have h4 : w.2.2.2.1.getD 0 0 = 4 := h4
    obtain ⟨c, hc⟩ := (hq w mw).1 h4
    refine ⟨c, w.2.2.2.2, hc, ?_⟩
    show (w.2.2.2.2.length : Int) = w.2.2.2.1.getD 4 0 ∧ rt n f w.2.2.2.2 = w.2.2.2.1.getD 5 0 ∧ 1 ≤ w.2.2.2.2.length ∧ w.2.2.2.2.length ≤ 500
    generalize w.2.2.2.1 = row at wt h4 ⊢
    generalize w.2.2.2.2 = es at wt ⊢
    cases wt with
    | beacon h v h0 => exact absurd h4 (by show ¬ (1 : Int) = 4; decide)
    | doc cs bs => exact absurd h4 (by show ¬ (2 : Int) = 4; decide)
    | renew d d0 => exact absurd h4 (by show ¬ (5 : Int) = 4; decide)
    | head s k h es bs s0 k0 k1 h0 e1 e5 => exact ⟨rfl, rfl, e1, by omega⟩
  · obtain ⟨w, mw, rfl⟩ := mm k mk
    exact (hq w mw).2 h4
/-! gapsW -/
/-! a library of whole things has no gaps -/
theorem Wt.nohd {n f : Int} {row es : List Int} (h : Wt n f row es) (e : ¬ row.getD 0 0 = 4) : es = [] := by
  cases h with
  | beacon => rfl
  | doc => rfl
  | renew => rfl
  | head s k h es bs => exact absurd (by show (4 : Int) = 4; rfl) e
theorem range_getD {row : List Int} {a c : Nat} (h : a + c ≤ row.length) : (List.range c).map (fun (k : Nat) => row.getD (a + k) 0) = (row.drop a).take c := by
  apply List.ext_getElem
  · simp; omega
  · intro i h1 h2
    rw [List.length_map, List.length_range] at h1
    simp only [List.getElem_map, List.getElem_range, List.getElem_take, List.getElem_drop]
    rw [List.getD_eq_getElem?_getD, List.getElem?_eq_getElem (by omega)]; rfl
theorem held_placesW {n f : Int} {row es : List Int} (h : Wt n f row es) : (heldL row es).map (fun x => x.1) = (placesN n f row es).map (fun x => x.2) := by
  have th := h.thing
  have ec : ¬ ("back" : Str) = ("cite" : Str) := by decide +kernel
  have ec2 : ¬ ("cite" : Str) = ("back" : Str) := by decide +kernel
  unfold heldL
  rw [List.map_append, List.map_append, enumN_fst, enumN_fst, enumN_fst]
  unfold placesN
  by_cases h2 : row.getD 0 0 = 2
  · obtain ⟨l2, l3⟩ := isThing_doc th h2
    have c0 := h.ok.one
    have e1 : listN row "cite" = (row.drop 2).take (row.getD 1 0).toNat := by unfold listN; rw [if_pos ⟨rfl, h2⟩]
    have e2 : listN row "back" = [] := by unfold listN; rw [if_neg (fun z => ec z.1), if_neg (fun z => by have := z.2; omega)]
    rw [if_pos h2, e1, e2, h.nohd (by omega), List.append_nil, List.append_nil]
    unfold citesN
    rw [List.map_map, ← range_getD (by omega)]; rfl
  · have e1 : listN row "cite" = [] := by unfold listN; rw [if_neg (fun z => h2 z.2), if_neg (fun z => ec2 z.1)]
    rw [if_neg h2, e1, List.nil_append]
    by_cases h4 : row.getD 0 0 = 4
    · obtain ⟨l6, _⟩ := isThing_hd th h4
      have e2 : listN row "back" = row.drop 6 := by unfold listN; rw [if_neg (fun z => ec z.1), if_pos ⟨rfl, h4⟩]
      rw [if_pos h4, e2, List.map_append]
      unfold backsN entsN
      rw [List.map_map, List.map_map]
      congr 1
      · have := range_getD (row := row) (a := 6) (c := row.length - 6) (by omega)
        rw [List.take_of_length_le (by rw [List.length_drop]; omega)] at this
        rw [← this]; rfl
      · have := range_getD (row := es) (a := 0) (c := es.length) (by omega)
        rw [List.drop_zero, List.take_length] at this
        refine this.symm.trans ?_
        apply List.map_congr_left
        intro k _
        show es.getD (0 + k) 0 = es.getD k 0
        rw [Nat.zero_add]
    · have e2 : listN row "back" = [] := by unfold listN; rw [if_neg (fun z => ec z.1), if_neg (fun z => h4 z.2)]
      rw [if_neg h4, e2, h.nohd h4]; rfl
theorem gaps_nil {n f : Int} {ws : List KN} {qs : List (Int × Addr × List Int)} (hk : ∀ w ∈ ws, Wt n f w.2.2.2.1 w.2.2.2.2) (hq : QsW ws qs) (hc : ClsK n f ws) : gapsP (ksW ws) qs = [] := by
  unfold gapsP
  apply List.flatMap_eq_nil_iff.mpr
  intro k mk
  obtain ⟨w, mw, rfl⟩ := List.mem_map.mp mk
  have wt := hk w mw
  have es : esOf qs w.1 = w.2.2.2.2 := by
    unfold esOf
    by_cases e : w.2.2.2.1.getD 0 0 = 4
    · obtain ⟨c, hc⟩ := (hq w mw).1 e
      rw [hc]
    · rw [(hq w mw).2 e, wt.nohd e]
  unfold gapsAt
  dsimp only
  rw [es, List.map_eq_nil_iff, List.filter_eq_nil_iff]
  intro x mx
  have hx : x.1 ∈ (heldL w.2.2.2.1 w.2.2.2.2).map (fun x => x.1) := List.mem_map_of_mem (f := fun x : Int × Str × Int => x.1) mx
  rw [held_placesW wt] at hx
  obtain ⟨y, my, ey⟩ := List.mem_map.mp hx
  obtain ⟨i, hi, e⟩ := List.getElem_of_mem mw
  have := hc i w (by rw [List.getElem?_eq_getElem hi, e]) y my
  rw [← ey, lkA_ksW]
  cases hu : lkW ws y.2 with
  | some u => simp
  | none => exact absurd (lkW_not fun v mv => lkW_none hu v (List.mem_of_mem_take mv)) this
/-! carw -/
/-! worlds, places, papers, data without lists: what carries them over -/
class NoLD (d : PyData) : Prop where
  no : noL d = true
class NoLDs (ds : List PyData) : Prop where
  no : noLs ds = true
instance {ns : List Int} : NoLDs (ns.map PyData.int) := ⟨noLs_ints ns⟩
instance {ds : List PyData} [n : NoLDs ds] : NoLD (.tuple ds) := ⟨by rw [noL]; exact n.no⟩
instance {p : Pl} : NoLD (plD p) := ⟨noL_pl p⟩
instance : NoLDs [] := ⟨rfl⟩
instance {d : PyData} {ds : List PyData} [a : NoLD d] [b : NoLDs ds] : NoLDs (d :: ds) := ⟨by rw [noLs, a.no, b.no]; rfl⟩
instance {s : Stp} : NoLD (stpD s) := ⟨by unfold stpD; exact NoLD.no⟩
instance {ss : List Stp} : NoLDs (ss.map stpD) := ⟨by
  induction ss with
  | nil => rfl
  | cons s r ih => rw [List.map_cons, noLs, ih, NoLD.no (d := stpD s)]; rfl⟩
section
variable {K : PySem.W.Frag} {H H' : Hp} {b r : Addr}
instance {v : V} {d : PyData} [n : NoLD d] : CarB b r H H' (Dp K H v d) (Dp K H' v d) := ⟨fun _ k h => dp_kpT k n.no h⟩
instance {v : List V} {d : List PyData} [n : NoLDs d] : CarB b r H H' (DpAll K H v d) (DpAll K H' v d) := ⟨fun _ k h => dpAll_kpT k n.no h⟩
instance {w m l1 d l3 : Addr} {n f : Int} {its : List It4} : Car H H' (WAt K H w m l1 d l3 n f its) (WAt K H' w m l1 d l3 n f its) := ⟨fun k n h => h.new k n⟩
instance {w m l1 d l3 : Addr} {n f : Int} {its : List It4} : CarB b r H H' (WAt K H w m l1 d l3 n f its) (WAt K H' w m l1 d l3 n f its) := ⟨fun bx k h => h.draw bx k⟩
instance {a : Addr} {p : Pl} : Car H H' (PlAt K H a p) (PlAt K H' a p) := ⟨fun k _ h => h.kp k⟩
instance {a : Addr} {p : Pl} : CarB b r H H' (PlAt K H a p) (PlAt K H' a p) := ⟨fun _ k h => h.kp k⟩
instance {CP p : Addr} {first : List Int} {ss : List Stp} : Car H H' (PpAt K CP H p first ss) (PpAt K CP H' p first ss) := ⟨fun k n ⟨dx, fr, st, vs, h1, h2, h3, h4⟩ => ⟨dx, fr, st, vs, k.atN n h1, k.atN n h2, dpAll_kpN k n h3, k.tup h4⟩⟩
end
/-! wplace -/
theorem Wt.two {n f : Int} {row es : List Int} (h : Wt n f row es) (e : row.getD 0 0 = 4) : 0 ≤ row.getD 2 0 ∧ row.getD 2 0 < 2 ^ 69 := by
  cases h with
  | beacon => exact absurd e (by show ¬ (1 : Int) = 4; decide)
  | doc => exact absurd e (by show ¬ (2 : Int) = 4; decide)
  | renew => exact absurd e (by show ¬ (5 : Int) = 4; decide)
  | head s k h es bs s0 k0 k1 => exact ⟨k0, Int.lt_of_le_of_lt k1 (by decide)⟩
theorem Wt.hd {n f : Int} {row es : List Int} (h : Wt n f row es) (e : row.getD 0 0 = 4) : ∃ (s k hh : Int) (bs : List Int), row = rowH n f s k hh es bs ∧ 1 ≤ es.length ∧ es.length ≤ 5 := by
  cases h with
  | beacon => exact absurd e (by show ¬ (1 : Int) = 4; decide)
  | doc => exact absurd e (by show ¬ (2 : Int) = 4; decide)
  | renew => exact absurd e (by show ¬ (5 : Int) = 4; decide)
  | head s k h es bs s0 k0 k1 h0 e1 e5 eb => exact ⟨s, k, h, bs, rfl, e1, e5⟩
/-- a place of a world's thing -/
theorem place_of {n f : Int} {row es : List Int} {x : Pl × Int} (wt : Wt n f row es) (h : x ∈ placesN n f row es) : hasPl row x.1 = true ∧ (¬ x.1.w = ("entry" : Str) → heldO row x.1 = some x.2) ∧ (x.1.w = ("entry" : Str) → row.getD 0 0 = 4 ∧ row.getD 4 0 = es.length ∧ 0 ≤ x.1.i ∧ x.1.i < es.length ∧ x.1.way = wy n f es x.1.i.toNat ∧ x.2 = es.getD x.1.i.toNat 0) := by
  have th := wt.thing
  have ro := wt.ok
  have fromHeld : ∀ {p : Pl} {d : Int}, heldO row p = some d → hasPl row p = true := fun {p d} hh => by
    unfold heldO at hh
    cases e : hasPl row p with
    | true => rfl
    | false => rw [if_pos (.inr e)] at hh; cases hh
  unfold placesN at h
  by_cases h2 : row.getD 0 0 = 2
  · obtain ⟨l2, l3⟩ := isThing_doc th h2
    rw [if_pos h2] at h
    unfold citesN at h
    obtain ⟨k, hk, rfl⟩ := List.mem_map.mp h
    rw [List.mem_range] at hk
    have hh : heldO row ⟨"cite", (k : Int), []⟩ = some (row.getD (2 + k) 0) := by
      rw [heldO_cite (p := ⟨"cite", (k : Int), []⟩) th ro rfl, if_pos ⟨h2, by show 0 ≤ (k : Int); omega, by show (k : Int) < _; omega⟩]; rfl
    exact ⟨fromHeld hh, fun _ => hh, fun e => absurd e (show ¬ ("cite" : Str) = "entry" by decide +kernel)⟩
  · rw [if_neg h2] at h
    by_cases h4 : row.getD 0 0 = 4
    · obtain ⟨l6, _⟩ := isThing_hd th h4
      obtain ⟨s, kk, hh', bs, er, e1, e5⟩ := wt.hd h4
      have r4 : row.getD 4 0 = (es.length : Int) := by rw [er]; rfl
      rw [if_pos h4] at h
      rcases List.mem_append.mp h with h | h
      · unfold backsN at h
        obtain ⟨k, hk, rfl⟩ := List.mem_map.mp h
        rw [List.mem_range] at hk
        have hh : heldO row ⟨"back", (k : Int), []⟩ = some (row.getD (6 + k) 0) := by
          rw [heldO_back (p := ⟨"back", (k : Int), []⟩) th rfl, if_pos ⟨h4, by show 0 ≤ (k : Int); omega, by show (k : Int) < _; omega⟩]; rfl
        exact ⟨fromHeld hh, fun _ => hh, fun e => absurd e (show ¬ ("back" : Str) = "entry" by decide +kernel)⟩
      · unfold entsN at h
        obtain ⟨k, hk, rfl⟩ := List.mem_map.mp h
        rw [List.mem_range] at hk
        refine ⟨?_, fun e => absurd rfl e, fun _ => ⟨h4, r4, by show 0 ≤ (k : Int); omega, by show (k : Int) < _; omega, rfl, rfl⟩⟩
        unfold hasPl
        rw [if_pos rfl]
        apply decide_eq_true
        exact ⟨h4, by show 0 ≤ (k : Int); omega, by show (k : Int) < _; rw [r4]; omega⟩
    · rw [if_neg h4] at h; cases h
/-! ahead -/
section
local macro_rules | `(tactic| wtm_at "d") => `(tactic| first | ((with_reducible show Z.XE _ (PySem.Expr.Call (PySem.Expr.Name "len" _) (_ :: _) [] _) _ _ _); refine Z.xe_callB (id := "len") (by assumption) (by wtm_at "m") T.b_len (by decide +kernel) ?_) | ((with_reducible show Z.XE _ (PySem.Expr.Call (PySem.Expr.Name "_law_draw" _) (_ :: _) [] _) _ _ _); refine Z.xe_call (by assumption) (Law.ok__law_draw T) (by wtm_at "m") (by omega) ?_) | ((with_reducible show Z.XE _ (PySem.Expr.Call (PySem.Expr.Name "_law_digest" _) (_ :: _) [] _) _ _ _); refine Z.xe_call (by assumption) (Law.ok__law_digest T) (by wtm_at "m") (by omega) ?_) | ((with_reducible show Z.XE _ (PySem.Expr.Call (PySem.Expr.Name "_law_places" _) (_ :: _) [] _) _ _ _); refine Z.xe_call (by assumption) (Law.ok__law_places T) (by wtm_at "m") (by omega) ?_) | ((with_reducible show Z.XE _ (PySem.Expr.Call (PySem.Expr.Name "_law_fits_back" _) (_ :: _) [] _) _ _ _); refine Z.xe_call (by assumption) (Law.ok__law_fits_back T) (by wtm_at "m") (by omega) ?_) | ((with_reducible show Z.XE _ (PySem.Expr.Call (PySem.Expr.Name "_law_ahead" _) (_ :: _) [] _) _ _ _); refine Z.xe_call (by assumption) (Law.ok__law_ahead T) (by wtm_at "m") (by omega) ?_) | fail)
/-! what lies ahead by one link; a walk back -/
theorem ahead_ok {n f : Int} {row es bs : List Int} {p : Pl} {d : Int} (wt : Wt n f row es) (h : (p, d) ∈ placesN n f row es) (e : dig n f bs = d) (hr : rrB bs row p = true) : stepWhy n f bs row p = none := by
  obtain ⟨h1, h2, h3⟩ := place_of wt h
  have ho : holdsB n f row p (dig n f bs) = true := by
    unfold holdsB
    by_cases he : p.w = ("entry" : Str)
    · obtain ⟨q4, q5, q6, q7, q8, q9⟩ := h3 he
      rw [if_pos he, show hasPl row p = true from h1, Bool.true_and]
      apply decide_eq_true
      unfold climbO
      have q5' : row.getD 4 0 = (es.length : Int) := q5
      have q8' : p.way = wy n f es p.i.toNat := q8
      have q9' : d = es.getD p.i.toNat 0 := q9
      rw [q5', Int.toNat_natCast, q8', if_pos (wy_len n f es.length es p.i.toNat (Nat.le_refl _)).symm, e]
      obtain ⟨s, k, hh, bs', er, _, _⟩ := wt.hd q4
      have r5 : row.getD 5 0 = rt n f es := by rw [er]; rfl
      have hi : p.i.toNat < es.length := by
        have : p.i < (es.length : Int) := q7
        have : 0 ≤ p.i := q6
        omega
      rw [cl_wy n f es.length es p.i.toNat d (Nat.le_refl _) (by rw [q9', List.getD_eq_getElem?_getD, List.getElem?_eq_getElem hi]; rfl), r5]
    · rw [if_neg he]
      apply decide_eq_true
      rw [e]; exact h2 he
  unfold stepWhy
  rw [if_pos wt.thing, if_pos h1, if_pos ho, if_pos hr]
def AhAt (K : PySem.W.Frag) (H : Hp) (n f : Int) (its : List It4) (t : It4) (y : V) : Prop := ∃ (T pa : Addr) (u : It4) (p : Pl), y = .ref T ∧ SqT K H T [.ref u.1, .ref pa] ∧ u ∈ its ∧ Dp K H (.ref pa) (plD p) ∧ stepWhy n f u.2.2.1 t.2.2.1 p = none
theorem AhAt.kp {K : PySem.W.Frag} {A : List Addr} {H H' : Hp} {n f : Int} {its : List It4} {t : It4} {y : V} (h : AhAt K H n f its t y) (k : Kp A H H') : AhAt K H' n f its t y := by
  obtain ⟨T, pa, u, p, e, h1, h2, h3, h4⟩ := h
  exact ⟨T, pa, u, p, e, k.tup h1, h2, dp_kpT k (noL_pl p) h3, h4⟩
def sp_ahead (K : PySem.W.Frag) : Sp := fun vs H Q _ => ∃ (w m l1 d l3 : Addr) (n f : Int) (its : List It4) (t : It4), vs = [.ref w, .ref t.1] ∧ WAt K H w m l1 d l3 n f its ∧ t ∈ its ∧ its.length ≤ 60 ∧ 0 < n ∧
  ∀ L us H', Kp [] H H' → H L = none → H' L = some (.lst us) → (∀ y ∈ us, AhAt K H' n f its t y) → Q (.ref L) H'
theorem ok__law_ahead (T : Txt P w K mg base) : DefOk P w K mg base "_law_ahead" ["world", "row"] 14 (sp_ahead K) := by
  refine DefOk.by T.d__law_ahead sc__law_ahead oc__law_ahead (fun vs H Q E h => ?_) (fun X e1 e2 e3 e4 e5 C H vs Q E h => ?_)
  · obtain ⟨w, m, l1, d, l3, n, f, its, t, rfl, _⟩ := h; rfl
  · obtain ⟨w, m, l1, d, l3, n, f, its, t, rfl, W, tm, li, hn, q⟩ := h
    wtm_at "go"
    wtm_at "w"
    intro L H1 k1 nL hL
    have W1 := W.kp k1
    have hw1 := W1.hw
    have h11 := W1.h1
    have hid1 : Kp [] H H1 ∧ True := ⟨k1, trivial⟩
    clear k1
    refine ⟨_, by wtm_at "u", ?_⟩
    refine xb_cons ?_
    refine xs_setLc C (by wtm_at "m") (by decide +kernel) rfl (by decide +kernel) ?_
    refine xlc_L (Vs' := ["world", "before"]) (G' := ["_law_digest"]) (nm := "before") (i := 6) (by assumption) ⟨rfl, by decide +kernel, by decide +kernel, rfl, by decide +kernel, by decide⟩ ?_
    wtm_at "w"
    refine ⟨l1, _, rfl, Z.SqL.of' h11, fun dl H2 k2 nd hdl => ?_⟩
    refine ⟨fun i H' => Kp [] H1 H' ∧ H' dl = some (.lst (((its.map fun u => dig n f u.2.2.1).take i).map V.int)), ⟨k2, by rw [List.take_zero]; exact hdl⟩, ?_, ?_, ?_⟩
    · rintro i H' _ ⟨k, _⟩
      exact Z.SqL.of' (k.at0 h11)
    · rintro i y H3 hy ⟨k3, h3⟩
      have hi := (List.getElem?_eq_some_iff.mp hy).1
      rw [List.length_map] at hi
      have um := List.getElem_mem hi
      have ey : V.ref its[i].1 = y := by
        rw [List.getElem?_map, List.getElem?_eq_getElem hi] at hy
        exact Option.some.inj hy
      subst ey
      have hdi : (its.map fun u => dig n f u.2.2.1)[i]? = some (dig n f its[i].2.2.1) := by rw [List.getElem?_map, List.getElem?_eq_getElem hi]; rfl
      generalize its[i] = u at um hdi
      have W3 := W1.kp k3
      have hw3 := W3.hw
      have hm3 := W3.hm
      obtain ⟨g1, _, g3⟩ := W3.it u um
      have gl := g3.len
      have hid3 : Kp [] H1 H3 ∧ True := ⟨k3, trivial⟩
      clear k2 k3
      refine ⟨_, by wtm_at "u", ?_⟩
      intro s0 H0 c cl fp C'
      wtm_at "w"
      refine ⟨m, u.1, n, f, u.2.2.1, rfl, hm3, Z.SqT.of' g1, hn, by omega, fun H4 k4 => ?_⟩
      refine ⟨_, k4.at0 h3, szl (by rw [List.length_map, List.length_take]; omega), fun H5 k5 h5 => ⟨(hid3.1.tr0 k4).tr1 k5 (.inr nd), ?_⟩⟩
      rw [h5, List.take_add_one, hdi, List.map_append]; rfl
    · rintro H3 ⟨k3, h3⟩
      rw [List.length_map] at h3
      rw [List.take_of_length_le (by rw [List.length_map]; omega)] at h3
      have W3 := W1.kp k3
      have hw3 := W3.hw
      have hm3 := W3.hm
      have hL3 := k3.at0 hL
      obtain ⟨g1, g2, wt⟩ := W3.it t tm
      have gt := Z.SqT.of' (K := X.K) g1
      have dget : DGet H3 d (.ref t.1) (some (.ref t.2.1)) := .inr ⟨_, keyOf t.2.2.1, t.1, .inl W3.hd, rfl, by rw [keyOf_kV]; exact g1, by rw [valV_kvsW, W3.ds t tm]; rfl⟩
      have hid3 : Kp [] H H3 ∧ True := ⟨hid1.1.tr0 k3, trivial⟩
      clear k2 k3 hdl
      refine ⟨_, by wtm_at "u", ?_⟩
      refine xb_cons ?_
      refine xs_forL (by assumption) ?_
      refine xe_call (by assumption) (ok__law_places T) (by wtm_at "m") (by omega) ?_
      wtm_at "w"
      refine vx_dict (by assumption) dget ?_
      wtm_at "w"
      refine ⟨m, t.1, t.2.1, n, f, t.2.2.1, t.2.2.2, rfl, hm3, gt, g2, wt, hn, fun lp us H4 k4 np hus hd => ?_⟩
      have W4 := W3.kp k4
      have h4 := k4.at0 h3
      have hL4 := k4.at0 hL3
      have hid4 : Kp [] H H4 ∧ True := ⟨hid3.1.tr0 k4, trivial⟩
      have npl : lp ≠ L := (ne_of_none hL3 np).symm
      have ndl : dl ≠ L := ne_of_none hL nd |>.symm
      have th := wt.thing
      have el := wt.el
      have rl := wt.len
      clear k4 dget gt g1 g2 hm3 hw3 W3 h3 hL3
      have lpl : (placesN n f t.2.2.1 t.2.2.2).length ≤ 200 := by
        unfold placesN citesN backsN entsN
        by_cases h2 : t.2.2.1.getD 0 0 = 2
        · obtain ⟨z1, z2⟩ := isThing_doc th h2
          rw [if_pos h2, List.length_map, List.length_range]; omega
        · rw [if_neg h2]
          by_cases h4 : t.2.2.1.getD 0 0 = 4
          · rw [if_pos h4, List.length_append, List.length_map, List.length_map, List.length_range, List.length_range]; omega
          · rw [if_neg h4]; simp
      have lu := dpAll_len hd
      rw [List.length_map] at lu
      refine ⟨lp, us, rfl, Z.SqL.of' hus, fun j σ H' => ∃ (v4 v5 : Option V) (zs : List V), σ = [some (.ref w), some (.ref t.1), some (.ref L), some (.ref dl), v4, v5, none] ∧ Kp [L] H4 H' ∧ H' L = some (.lst zs) ∧ zs.length ≤ 60 * j ∧ ∀ y ∈ zs, AhAt X.K H' n f its t y, ⟨_, _, [], rfl, Kp.refl _ _, hL4, Nat.le_refl _, fun y m => nomatch m⟩, ?_, ?_, ?_⟩
      · rintro j σ' H' _ ⟨v4, v5, zs, rfl, k, _⟩
        exact Z.SqL.of' (k.at1 npl hus)
      · rintro j y σ' H5 hy ⟨v4, v5, zs, rfl, k5, hL5, lz, az⟩
        have hj : j < (placesN n f t.2.2.1 t.2.2.2).length := by
          have := (List.getElem?_eq_some_iff.mp hy).1
          omega
        obtain ⟨y', hy', dy⟩ := dpAll_at hd (i := j) (d := plpD (placesN n f t.2.2.1 t.2.2.2)[j]) (by rw [List.getElem?_map, List.getElem?_eq_getElem hj]; rfl)
        have ey : y' = y := Option.some.inj (hy'.symm.trans hy)
        subst ey
        have mem := List.getElem_mem hj
        generalize (placesN n f t.2.2.1 t.2.2.2)[j] = x at dy mem
        obtain ⟨p, pd⟩ := x
        have pl1 := (place_of wt mem).1
        have dy5 := dp_kpT k5 (by simp [plpD, noL, noLs, noL_pl]) dy
        obtain ⟨pr, vs2, rfl, hpr, da⟩ := dp_tupI dy5
        obtain ⟨x1, x2, rfl, d1, d2⟩ := dpAll2 da
        obtain ⟨pa, rfl, hpa⟩ := PlAt.of d1
        have e2' := dp_intI d2
        subst e2'
        have hid5 : Kp [L] H4 H5 ∧ True := ⟨k5, trivial⟩
        clear k5 hy hy' dy dy5 da d2
        refine xg_name C (by wtm_at "m") (by wtm_at "m") ?_
        refine ⟨_, by wtm_at "u", ?_⟩
        refine xb_cons ?_
        refine xs_forR1 (by assumption) (by wtm_at "m") T.b_range ?_
        have h5 := hid5.1.at1 ndl h4
        wtm_at "w"
        rw [List.length_map, List.length_map]
        refine ⟨_, rfl, by omega, by omega, fun k σ H' => ∃ (v5 : Option V) (zs : List V), σ = [some (.ref w), some (.ref t.1), some (.ref L), some (.ref dl), some (.ref pr), v5, none] ∧ Kp [L] H5 H' ∧ H' L = some (.lst zs) ∧ zs.length ≤ 60 * j + k ∧ ∀ y ∈ zs, AhAt X.K H' n f its t y, ⟨_, zs, rfl, Kp.refl _ _, hL5, by omega, az⟩, ?_, ?_⟩
        · rintro k σ' H6 hk ⟨v5, zs, rfl, k6, hL6, lz, az⟩
          have hk' : k < its.length := by omega
          have um := List.getElem_mem hk'
          have hdi : (its.map fun u => dig n f u.2.2.1)[k]? = some (dig n f its[k].2.2.1) := by rw [List.getElem?_map, List.getElem?_eq_getElem hk']; rfl
          have hui : atI (its.map fun u => V.ref u.1) (k : Int) = some (.ref its[k].1) := at_nat (by rw [List.getElem?_map, List.getElem?_eq_getElem hk']; rfl)
          generalize its[k] = u at um hdi hui
          have W6 : WAt X.K H6 w m l1 d l3 n f its := W.new (A := [L]) (((hid4.1.wk (fun l m => nomatch m)).tr hid5.1 (fun l m => .inl m)).tr k6 (fun l m => .inl m)) (fun l m => by rw [List.mem_singleton.mp m]; exact nL)
          have hw6 := W6.hw
          have h16 := W6.h1
          have gu := Z.SqT.of' (K := X.K) (W6.it u um).1
          have gt := Z.SqT.of' (K := X.K) (W6.it t tm).1
          have tu := (W6.it u um).2.2.thing
          have h6 := k6.at1 ndl h5
          have hpr6 := k6.tup hpr
          have hpa6 := hpa.kp k6
          have dpa6 := dp_kpT k6 (noL_pl p) d1
          have hid6 : Kp [L] H5 H6 ∧ True := ⟨k6, trivial⟩
          clear k6
          refine xg_name C (by wtm_at "m") (by wtm_at "m") ?_
          refine ⟨_, by wtm_at "u", ?_⟩
          refine xb_cons (xs_if (XT.mono (Q := fun kb H1 => Kp [] H6 H1 ∧ (kb = true → dig n f u.2.2.1 = pd ∧ rrB u.2.2.1 t.2.2.1 p = true)) ?_ ?_))
          · wtm_at "w"
            refine vx_lst (Z.SqL.of' h6) (at_map_nat hdi) ?_
            wtm_at "w"
            refine ite_d (fun ed => ?_) (fun ed => ⟨Kp.refl _ _, fun z => nomatch z⟩)
            wtm_at "w"
            refine vx_lst (Z.SqL.of' h16) hui ?_
            wtm_at "w"
            refine ⟨u.1, t.1, pa, u.2.2.1, t.2.2.1, p, rfl, gu, gt, hpa6, tu, th, fun _ => pl1, wt.two, fun H7 k7 => ?_⟩
            wtm_at "w"
            exact ⟨k7, fun z => ⟨ed, z⟩⟩
          · rintro kb H7 ⟨k7, hb⟩
            have hL7 := k7.at0 hL6
            have hid7 : Kp [L] H5 H7 ∧ True := ⟨hid6.1.tr0 k7, trivial⟩
            have hw7 := k7.at0 hw6
            have h17 := k7.at0 h16
            have hpr7 := k7.tup hpr6
            have dpa7 := dp_kp k7 dpa6
            have az7 := fun y my => (az y my).kp k7
            clear k7
            refine ite_b (fun c => ?_) (fun c => ?_)
            · obtain ⟨c1, c2⟩ := hb c
              have sw := ahead_ok wt mem c1 c2
              wtm_at "w"
              refine vx_lst (Z.SqL.of' h17) hui ?_
              wtm_at "w"
              intro T8 H8 k8 h8 _
              refine ⟨k8.at0 hL7, szl (by omega), fun H9 k9 h9 => ?_⟩
              have k79 : Kp [L] H7 H9 := (k8.wk (fun l m => nomatch m)).tr k9 (fun l m => .inl m)
              wtm_at "w"
              refine ⟨_, _, rfl, hid7.1.tr k79 (fun l m => .inl m), h9, by simp; omega, fun y my => ?_⟩
              rcases List.mem_append.mp my with z | z
              · exact (az7 y z).kp k79
              · rw [List.mem_singleton.mp z]
                exact ⟨T8, pa, u, p, rfl, k9.tup h8, um, dp_kpT k79 (noL_pl p) dpa7, sw⟩
            · wtm_at "w"
              exact ⟨_, zs, rfl, hid7.1, hL7, by omega, az7⟩
        · rintro σ' H6 ⟨v5, zs, rfl, k6, hL6, lz, az⟩
          refine xb_nil ?_
          exact ⟨_, _, zs, rfl, hid5.1.tr k6 (fun l m => .inl m), hL6, by omega, az⟩
      · rintro σ' H5 ⟨v4, v5, zs, rfl, k5, hL5, lz, az⟩
        wtm_at "w"
        exact q L zs H5 (hid4.1.tr1 k5 (.inr nL)) nL hL5 az
def sp_walk (K : PySem.W.Frag) : Sp := fun vs H Q _ => ∃ (b r w m l1 d l3 : Addr) (n f : Int) (its : List It4) (t : It4) (c : Nat), vs = [.ref b, .ref w, .ref t.1, .int c] ∧ Box H b r ∧ WAt K H w m l1 d l3 n f its ∧ t ∈ its ∧ its.length ≤ 60 ∧ 0 < n ∧ c ≤ 20 ∧
  ∀ (q st : Addr) (u : It4) (ss : List Stp) (us : List V) H', Kp [b] H H' → Box H' b r → H q = none → H st = none → H' q = some (.lst [.ref u.1, .ref st]) → H' st = some (.lst us) → DpAll K H' us (ss.map stpD) → u ∈ its → okW n f u.2.2.1 ss → lastR u.2.2.1 ss = t.2.2.1 → (∀ s ∈ ss, ∃ v ∈ its, v.2.2.1 = s.1) → ss.length ≤ c → Q (.ref q) H'
theorem ok__law_walk (T : Txt P w K mg base) : DefOk P w K mg base "_law_walk" ["box", "world", "row", "most"] 15 (sp_walk K) := by
  refine DefOk.by T.d__law_walk sc__law_walk oc__law_walk (fun vs H Q E h => ?_) (fun X e1 e2 e3 e4 e5 C H vs Q E h => ?_)
  · obtain ⟨b, r, w, m, l1, d, l3, n, f, its, t, c, rfl, _⟩ := h; rfl
  · obtain ⟨b, r, w, m, l1, d, l3, n, f, its, t, c, rfl, bx, W, tm, li, hn, hc, q⟩ := h
    wtm_at "go"
    wtm_at "w"
    intro st0' H1 k1 nst hst
    have bx1 := bx.kp k1
    have k01 : Kp [b] H H1 := k1.wk (fun l m => nomatch m)
    clear k1
    wtm_at "w"
    refine xs_forR1 (by assumption) (by wtm_at "m") T.b_range ?_
    wtm_at "w"
    refine ⟨_, rfl, by omega, by omega, fun i σ H' => ∃ (st : Addr) (u : It4) (ss : List Stp) (us : List V) (v5 v6 v7 : Option V), σ = [some (.ref b), some (.ref w), some (.ref u.1), some (.int (c : Int)), some (.ref st), v5, v6, v7] ∧ Kp [b] H H' ∧ Box H' b r ∧ H st = none ∧ H' st = some (.lst us) ∧ DpAll X.K H' us (ss.map stpD) ∧ u ∈ its ∧ okW n f u.2.2.1 ss ∧ lastR u.2.2.1 ss = t.2.2.1 ∧ (∀ s ∈ ss, ∃ v ∈ its, v.2.2.1 = s.1) ∧ ss.length ≤ i, ⟨st0', t, [], [], _, _, _, rfl, k01, bx1, nst, hst, .nil, tm, trivial, rfl, (fun s m => nomatch m), Nat.le_refl _⟩, ?_, ?_⟩
    · rintro i σ' H2 hi ⟨st, u, ss, us, v5, v6, v7, rfl, k2, bx2, nst, hst, hd, um, ow, lr, sw, ls⟩
      have W2 := W.draw bx k2
      have hid2 : Kp [b] H H2 ∧ True := ⟨k2, trivial⟩
      have lu := dpAll_len hd
      rw [List.length_map] at lu
      have nbs := (bx.nl nst).1
      clear k2
      refine xg_name C (by wtm_at "m") (by wtm_at "m") ?_
      refine ⟨_, by wtm_at "u", ?_⟩
      refine xb_cons ?_
      refine xs_set (by assumption) ?_ (hx := by wtm_at "m") (hl := by wtm_at "m")
      refine xe_call (by assumption) (ok__law_ahead T) (by wtm_at "m") (by omega) ?_
      wtm_at "w"
      refine ⟨w, m, l1, d, l3, n, f, its, u, rfl, W2, um, li, hn, fun L zs H3 k3 nL hL az => ?_⟩
      have bx3 := bx2.kp k3
      have hst3 := k3.at0 hst
      have hd3 := dpAll_kp k3 hd
      have hid3 : Kp [b] H H3 ∧ True := ⟨hid2.1.tr0 k3, trivial⟩
      have nbL := (bx2.nl nL).1
      clear k3 hst hd W2 bx2
      refine ⟨_, by wtm_at "u", ?_⟩
      refine xb_cons (xs_if (XT.mono (Q := fun kb H1 => Kp [b] H3 H1 ∧ Box H1 b r ∧ (kb = true → 0 < zs.length)) ?_ ?_))
      · wtm_at "w"
        refine ite_d (fun c1 => ?_) (fun c1 => ⟨Kp.refl _ _, bx3, fun z => nomatch z⟩)
        wtm_at "w"
        refine ⟨b, r, 6, rfl, bx3, by decide, fun x H4 x0 x1 k4 bx4 => ?_⟩
        wtm_at "w"
        exact ⟨k4, bx4, fun _ => by omega⟩
      · rintro kb H4 ⟨k4, bx4, hl⟩
        have hst4 := k4.at1 nbs.symm hst3
        have noS : noLs (ss.map stpD) = true := by
          clear ow lr sw ls lu hd3
          induction ss with
          | nil => rfl
          | cons s r ih => simp [noLs, stpD, noL, noL_pl, noLs_ints, ih]
        have hd4 := dpAll_kpT k4 noS hd3
        have hL4 := k4.at1 nbL.symm hL
        have hid4 : Kp [b] H H4 ∧ True := ⟨hid3.1.tr1 k4 (.inl (by simp)), trivial⟩
        have az4 := fun y my => (az y my).kp k4
        clear k4
        refine ite_b (fun cc => ?_) (fun cc => ?_)
        · have hl' := hl cc
          wtm_at "w"
          refine ⟨b, r, _, rfl, bx4, by omega, fun x H5 x0 x1 k5 bx5 => ?_⟩
          have hst5 := k5.at1 nbs.symm hst4
          have hd5 := dpAll_kpT k5 noS hd4
          have hL5 := k5.at1 nbL.symm hL4
          have hid5 : Kp [b] H H5 ∧ True := ⟨hid4.1.tr1 k5 (.inl (by simp)), trivial⟩
          obtain ⟨x, rfl⟩ := Int.eq_ofNat_of_zero_le x0
          have xl : x < zs.length := by omega
          obtain ⟨T6, pa, u', p, ez, g1, g2, g3, g4⟩ := (az4 zs[x] (List.getElem_mem xl)).kp k5
          have hzx : atI zs (x : Int) = some (.ref T6) := at_nat (by rw [List.getElem?_eq_getElem xl, ez])
          have W5 := W.draw bx hid5.1
          have gu := Z.SqT.of' (K := X.K) (W5.it u um).1
          clear k5
          refine vx_lst (Z.SqL.of' hL5) hzx ?_
          wtm_at "w"
          intro T7 H6 k6 h7 _
          have hst6 := k6.at0 hst5
          have hd6 := dpAll_kp k6 hd5
          have g16 := k6.tup g1
          have g36 := dp_kp k6 g3
          have gu6 := k6.tup gu
          have bx6 := bx5.kp k6
          have hid6 : Kp [b] H H6 ∧ True := ⟨hid5.1.tr0 k6, trivial⟩
          clear k6 W5
          wtm_at "w"
          intro l8 H7 k7 n8 h8
          have hst7 := k7.at0 hst6
          have hd7 := dpAll_kp k7 hd6
          have g17 := k7.tup g16
          have g37 := dp_kp k7 g36
          have gu7 := k7.tup gu6
          have h77 := k7.tup h7
          have bx7 := bx6.kp k7
          have hid7 : Kp [b] H H7 ∧ True := ⟨hid6.1.tr0 k7, trivial⟩
          clear k7
          wtm_at "w"
          refine vo_catL h8 hst7 (sz_ (by simp; omega)) (fun l9 H8 k8 n9 h9 => ?_)
          have g18 := k8.tup g17
          have hid8 : Kp [b] H H8 ∧ True := ⟨hid7.1.tr0 k8, trivial⟩
          have bx8 := bx7.kp k8
          have dstep : DpAll X.K H8 ([V.ref T7] ++ us) (((u.2.2.1, p) :: ss).map stpD) := .cons (.tup (k8.tup h77) (.cons (dp_T (k8.tup gu7)) (.cons (dp_kp k8 g37) .nil))) (dpAll_kp k8 hd7)
          have nl9 := hid7.1.n _ n9
          clear k8 h8 hst7 hd7
          wtm_at "w"
          refine ⟨l9, u', (u.2.2.1, p) :: ss, _, _, _, _, rfl, hid8.1, bx8, nl9, h9, dstep, g2, ⟨g4, ow⟩, lr, fun s ms => ?_, by simp; omega⟩
          rcases List.mem_cons.mp ms with rfl | ms
          · exact ⟨u, um, rfl⟩
          · exact sw s ms
        · wtm_at "w"
          exact ⟨st, u, ss, us, _, _, _, rfl, hid4.1, bx4, nst, hst4, hd4, um, ow, lr, sw, by omega⟩
    · rintro σ' H2 ⟨st, u, ss, us, v5, v6, v7, rfl, k2, bx2, nst, hst, hd, um, ow, lr, sw, ls⟩
      wtm_at "w"
      intro qq H3 k3 n3 h3
      exact q qq st u ss us H3 (k2.tr0 k3) (bx2.kp k3) (k2.n _ n3) nst h3 (k3.at0 hst) (dpAll_kp k3 hd) um ow lr sw (by omega)
end
/-! lcK -/
/-! a comprehension over a dict's keys (numbers), a statement beside a dict that is locked meanwhile -/
section
variable {X : Cx} {σ : L2.St} {H : Hp} {N Vs Ls G : List Str} {k : Nat} {sc : Scope} {elt iter : Expr} {ifs : List Expr} {scope : Scope} {p1 pos : Pos} {nm : Str} {i : Nat} {Vs' G' : List Str} {Q : VK} {nx : L2.St → Hp → Prop} {D : B3} {s : Stmt}
theorem xs_lock {d : Addr} {kvs : List (Key × V)} (hd : H d = some (.dK kvs)) (h : ∀ (od : Obj) (H1 : Hp), Kp [d] H H1 → H1 d = some (.frz od (.dK kvs)) → (∀ A H2, Kp A H1 H2 → Kp A H (upd H2 d (.dK kvs))) →
    XS X s (fun σ' H' => H' d = some (.frz od (.dK kvs)) ∧ nx σ' (upd H' d (.dK kvs))) ⟨fun v H' => H' d = some (.frz od (.dK kvs)) ∧ D.rt v (upd H' d (.dK kvs)), fun σ' H' => H' d = some (.frz od (.dK kvs)) ∧ D.bk σ' (upd H' d (.dK kvs)), fun σ' H' => H' d = some (.frz od (.dK kvs)) ∧ D.ct σ' (upd H' d (.dK kvs))⟩ σ H1) : XS X s nx D σ H :=
  ⟨_, ps_lock XS.ps, d, .dK kvs, hd, by trivial, fun od => h od _ (Kp.lock hd rfl) upd_same fun A H2 k2 => Kp.unlock hd rfl k2⟩
theorem xe_lock {d : Addr} {kvs : List (Key × V)} {e : Expr} (hd : H d = some (.dK kvs)) (h : ∀ (od : Obj) (H1 : Hp), Kp [d] H H1 → H1 d = some (.frz od (.dK kvs)) → (∀ A H2, Kp A H1 H2 → Kp A H (upd H2 d (.dK kvs))) →
    XE X e σ H1 (fun v H' => H' d = some (.frz od (.dK kvs)) ∧ Q v (upd H' d (.dK kvs)))) : XE X e σ H Q :=
  ⟨_, pe_lock XE.pe, d, .dK kvs, hd, by trivial, fun od => h od _ (Kp.lock hd rfl) upd_same fun A H2 k2 => Kp.unlock hd rfl k2⟩
theorem lc_keys {d : Addr} {o : Obj} {kvs : List (Key × V)} {g : TG} {tt : TT} {te : TE} {vs : List Nat} {H1 : Hp} {L : Addr} {Qd : Hp → Prop} (Pv : Nat → Hp → Prop) (h0 : Pv 0 (upd H1 L (.lst []))) (hG : ∀ i H, i ≤ kvs.length → Pv i H → H d = some (.frz o (.dK kvs)))
    (hs : ∀ i kk v H, kvs[i]? = some (kk, v) → Pv i H → g (kV kk) (wipe σ vs) H fun σ2 H2 => wipe σ2 vs = wipe σ vs ∧ tt σ2 H2 fun b H3 =>
      if b = true then te σ2 H3 fun y H4 => ∃ acc, H4 L = some (.lst acc) ∧ acc.length < sizeLine ∧ Pv (i + 1) (upd H4 L (.lst (acc ++ [y]))) else Pv (i + 1) H3) (hd : ∀ H, Pv kvs.length H → Qd H) :
    ∃ W : Nat → Nat → Hp → Prop, (∃ m, W 0 m (upd H1 L (.lst []))) ∧ ∀ i m H, W i m H →
      ((Itk d o kvs).stop i H ∧ Qd H) ∨ ((Itk d o kvs).go i H ∧ ∃ Nx : Hp → Prop, (∀ H', Nx H' → ∃ m', m' < m ∧ W (i + 1) m' H') ∧ ∀ x H', (Itk d o kvs).yld i H x H' → g x (wipe σ vs) H' fun σ2 H2 => wipe σ2 vs = wipe σ vs ∧ tt σ2 H2 fun b H3 =>
        if b = true then te σ2 H3 fun y H4 => ∃ acc, H4 L = some (.lst acc) ∧ acc.length < sizeLine ∧ Nx (upd H4 L (.lst (acc ++ [y]))) else Nx H3) := by
  refine ⟨fun i m H => m = kvs.length - i ∧ i ≤ kvs.length ∧ Pv i H, ⟨kvs.length, by simp, Nat.zero_le _, h0⟩, ?_⟩
  rintro i m H ⟨rfl, hi, p⟩
  have q := hG i H hi p
  by_cases hlt : i < kvs.length
  · refine .inr ⟨⟨q, hlt⟩, Pv (i + 1), fun H' p' => ⟨kvs.length - (i + 1), by omega, rfl, hlt, p'⟩, ?_⟩
    rintro x H' ⟨rfl, kk, v, e, rfl⟩
    exact hs i kk v _ e p
  · have e : i = kvs.length := by omega
    subst e
    exact .inl ⟨⟨q, Nat.le_refl _⟩, hd H p⟩
theorem xlc_K (C : Ctx X sc N Vs Ls G k) (O : LcOk sc scope N Vs' G' nm i ifs)
    (h : XE X iter σ H fun v H1 => ∃ (d : Addr) (od : Obj) (kvs : List (Key × V)), v = .ref d ∧ H1 d = some (.frz od (.dK kvs)) ∧ ∀ L H2, Kp [] H1 H2 → H1 L = none → H2 L = some (.lst []) → ∃ Pv : Nat → Hp → Prop, Pv 0 H2 ∧ (∀ t H', t ≤ kvs.length → Pv t H' → H' d = some (.frz od (.dK kvs))) ∧
      (∀ t kk y H', kvs[t]? = some (kk, y) → Pv t H' → XTurn X sc scope N Vs' G' k nm ifs elt σ (kV kk) H' L (Pv (t + 1))) ∧ ∀ H', Pv kvs.length H' → Q (.ref L) H') : XLC X elt (.Name nm p1) iter ifs scope σ H Q := by
  refine ⟨_, gName i, ttC X scope ifs, teC X scope elt, [(nm, i)], pi_keys XE.pe, blkOk_by (by rw [C.hN, C.esc]; exact O.blk), fun _ _ _ _ _ => pg_blk C O.hN O.own, fun _ _ _ _ _ => pts_blk O.one, fun _ _ _ _ _ => pe_blk,
    fun σ H R R' m h => ?_, ?_⟩
  · exact h.mono fun v H1 ⟨d, od, e, h1⟩ => ⟨d, od, e, h1.imp (fun ⟨kvs, a, q⟩ => ⟨kvs, a, m _ _ q⟩) (fun ⟨kvs, a, q⟩ => ⟨kvs, a, m _ _ q⟩)⟩
  · refine h.mono fun v H1 ⟨d, od, kvs, e, hd, h⟩ => ⟨d, od, e, .inl ⟨kvs, hd, fun L hL => ?_⟩⟩
    obtain ⟨Pv, h0, hl, hs, hdn⟩ := h L _ (Kp.new hL) hL upd_same
    exact lc_keys (d := d) (o := od) (kvs := kvs) Pv h0 hl (fun t kk y H' ht p => turn_ok C O.hN O.rd O.knd O.one (hs t kk y H' ht p)) hdn
end
/-! papsQ -/
/-! papers as lists of a row and a list of steps; the lists at Os are being made, others stay -/
def PpQ (K : PySem.W.Frag) (Os : List Addr) (H : Hp) (v : V) (x : List Int × List Stp) : Prop := ∃ (pa fr st : Addr) (vs : List V), v = .ref pa ∧ pa ∉ Os ∧ st ∉ Os ∧ H pa = some (.lst [.ref fr, .ref st]) ∧ SqT K H fr (x.1.map V.int) ∧ H st = some (.lst vs) ∧ DpAll K H vs (x.2.map stpD)
theorem stpsQ_no : ∀ ss : List Stp, noLs (ss.map stpD) = true
  | [] => rfl
  | s :: r => by simp [noLs, noL, stpD, noL_pl, noLs_ints, stpsQ_no r]
theorem stps_refs {K : PySem.W.Frag} {H : Hp} : ∀ {ss : List Stp} {vs : List V}, DpAll K H vs (ss.map stpD) → ∃ as : List Addr, vs = as.map V.ref
  | [], _, h => by cases h; exact ⟨[], rfl⟩
  | s :: r, _, h => by
    cases h with
    | cons h1 h2 =>
      obtain ⟨p, ws, rfl, _, _⟩ := dp_tupI h1
      obtain ⟨as, rfl⟩ := stps_refs h2
      exact ⟨p :: as, rfl⟩
/-- what may change: the box, the lists at Os, dicts, and what is new -/
theorem PpQ.safe {K : PySem.W.Frag} {Os : List Addr} {b r : Addr} {A : List Addr} {H H' : Hp} {v : V} {x : List Int × List Stp} (h : PpQ K Os H v x) (bx : Box H b r) (k : Kp A H H') (hA : ∀ l ∈ A, l = b ∨ l ∈ Os ∨ H l = none ∨ ∃ kvs, H l = some (.dK kvs)) : PpQ K Os H' v x := by
  obtain ⟨pa, fr, st, vs, e, n1, n2, h1, h2, h3, h5⟩ := h
  obtain ⟨as, rfl⟩ := stps_refs h5
  refine ⟨pa, fr, st, _, e, n1, n2, k.at (fun m => ?_) h1, k.tup h2, k.at (fun m => ?_) h3, dpAll_kpT k (stpsQ_no _) h5⟩
  · rcases hA _ m with z | z | z | ⟨kvs, z⟩
    · exact bx.neRefs (as := [fr, st]) h1 z
    · exact n1 z
    · exact some_ne h1 z rfl
    · rw [h1] at z; cases z
  · rcases hA _ m with z | z | z | ⟨kvs, z⟩
    · exact bx.neRefs h3 z
    · exact n2 z
    · exact some_ne h3 z rfl
    · rw [h3] at z; cases z
theorem PpQ.kp {K : PySem.W.Frag} {Os : List Addr} {H H' : Hp} {v : V} {x : List Int × List Stp} (h : PpQ K Os H v x) (k : Kp [] H H') : PpQ K Os H' v x := by
  obtain ⟨pa, fr, st, vs, e, n1, n2, h1, h2, h3, h5⟩ := h
  exact ⟨pa, fr, st, _, e, n1, n2, k.at0 h1, k.tup h2, k.at0 h3, dpAll_kp k h5⟩
/-! grow -/
/-! what is traced as known is so in a library that has more -/
theorem traceAt_grow {n f : Int} {ks qs ks' qs' : List (Int × Addr × List Int)} {first : List Int} {ss : List Stp} (kn : Know n f ks qs) (hk : ∀ x z, lkA ks x = some z → lkA ks' x = some z) (hq : ∀ x z, lkA ks x = some z → esOf qs' x = esOf qs x) (ok : okW n f first ss) : ∀ k, k ≤ ss.length → KnR n f ks ((first :: ss.map (·.1)).getD k []) → traceAt n f ks qs (first :: ss.map (·.1)) ss k = .known → traceAt n f ks' qs' (first :: ss.map (·.1)) ss k = .known
  | 0, _, _, _ => rfl
  | k + 1, hkl, hr, ht => by
    have kl : k < ss.length := by omega
    have gs : ss[k]? = some ss[k] := List.getElem?_eq_getElem kl
    have row1 : (first :: ss.map (·.1)).getD (k + 1) [] = ss[k].1 := by
      rw [List.getD_eq_getElem?_getD, List.getElem?_cons_succ, List.getElem?_map, gs]; rfl
    have hw := okW_at ok gs
    rw [row1] at hr
    rw [traceAt, gs] at ht ⊢
    dsimp only at ht ⊢
    have ih := traceAt_grow kn hk hq ok k (by omega)
    generalize ss[k] = s at gs hw hr ht
    generalize (first :: ss.map (·.1)) = rows at hw ih ht ⊢
    obtain ⟨za, hr⟩ := hr
    cases hc : clashAt n f ks qs (rows.getD k []) s.1 s.2 with
    | some c => rw [hc] at ht; cases ht
    | none =>
      rw [hc] at ht
      dsimp only at ht
      unfold clashAt at hc
      have h1 := (Option.or_eq_none_iff.mp hc).1
      have h2 := (Option.or_eq_none_iff.mp hc).2
      by_cases hl : lkA ks (dig n f (rows.getD k [])) = none
      · rw [if_pos hl] at ht; cases ht
      · rw [if_neg hl] at ht
        have t2 : treeCl n f qs' s.1 s.2 (dig n f (rows.getD k [])) = none := by
          unfold treeCl at h1 ⊢
          by_cases he : s.2.w = ("entry" : Str)
          · obtain ⟨c, es, q1, q2, _⟩ := step_es kn hr he hw
            have q3 : esOf qs' (dig n f s.1) = es := by rw [hq _ _ hr]; exact q2
            rw [if_pos he] at h1 ⊢
            rw [q2] at h1
            rw [q3]; exact h1
          · rw [if_neg he]
        obtain ⟨z, hz⟩ := Option.ne_none_iff_exists'.mp hl
        have hz' := hk _ _ hz
        have r2 : rowCl n f ks' (rows.getD k []) = none := by
          unfold rowCl at h2 ⊢
          rw [hz] at h2
          rw [hz']; exact h2
        have ez : z.2 = rows.getD k [] := by
          unfold rowCl at h2
          rw [hz] at h2
          dsimp only at h2
          by_cases e : z.2 = rows.getD k []
          · exact e
          · rw [if_neg e] at h2; cases h2
        have c2 : clashAt n f ks' qs' (rows.getD k []) s.1 s.2 = none := by unfold clashAt; rw [t2, r2]; rfl
        rw [c2]
        dsimp only
        rw [if_neg (by rw [hz']; simp)]
        exact ih ⟨z.1, by rw [hz, ← ez]⟩ ht
/-! putall -/
section
local macro_rules | `(tactic| wtm_at "d") => `(tactic| first | ((with_reducible show Z.XE _ (PySem.Expr.Call (PySem.Expr.Name "isinstance" _) (_ :: _) [] _) _ _ _); refine Z.xe_callB (id := "isinstance") (by assumption) (by wtm_at "m") T.b_isinstance (by decide +kernel) ?_) | ((with_reducible show Z.XE _ (PySem.Expr.Call (PySem.Expr.Name "len" _) (_ :: _) [] _) _ _ _); refine Z.xe_callB (id := "len") (by assumption) (by wtm_at "m") T.b_len (by decide +kernel) ?_) | ((with_reducible show Z.XE _ (PySem.Expr.Call (PySem.Expr.Name "list" _) (_ :: _) [] _) _ _ _); refine Z.xe_callTy (id := "list") (by assumption) (by wtm_at "m") T.b_list (by decide +kernel) ?_) | ((with_reducible show Z.XE _ (PySem.Expr.Name "list" _) _ _ _); refine Z.xe_ty (id := "list") (by assumption) (by wtm_at "m") T.b_list (by decide +kernel) ?_) | ((with_reducible show Z.XE _ (PySem.Expr.Call (PySem.Expr.Name "tuple" _) (_ :: _) [] _) _ _ _); refine Z.xe_callTy (id := "tuple") (by assumption) (by wtm_at "m") T.b_tuple (by decide +kernel) ?_) | ((with_reducible show Z.XE _ (PySem.Expr.Name "tuple" _) _ _ _); refine Z.xe_ty (id := "tuple") (by assumption) (by wtm_at "m") T.b_tuple (by decide +kernel) ?_) | ((with_reducible show Z.XE _ (PySem.Expr.Call (PySem.Expr.Name "_law_digest" _) (_ :: _) [] _) _ _ _); refine Z.xe_call (by assumption) (Law.ok__law_digest T) (by wtm_at "m") (by omega) ?_) | fail)
/-! all of a list put in, clashes or not -/
def putW (n f : Int) (ws : List KN) (t : It4) : List KN := if lkW ws (dig n f t.2.2.1) = none then ws ++ [kwOf n f t] else ws
theorem lkW_putW {n f : Int} {ws : List KN} {t : It4} {x : Int} {u : KN} (h : lkW ws x = some u) : lkW (putW n f ws t) x = some u := by
  unfold putW
  by_cases e : lkW ws (dig n f t.2.2.1) = none
  · rw [if_pos e]
    clear e
    induction ws with
    | nil => cases h
    | cons v r ih =>
      rw [List.cons_append, lkW]
      rw [lkW] at h
      by_cases z : v.1 = x
      · rw [if_pos z] at h ⊢; exact h
      · rw [if_neg z] at h ⊢; exact ih h
  · rw [if_neg e]; exact h
theorem lkW_putsW {n f : Int} : ∀ {ts : List It4} {ws : List KN} {x : Int} {u : KN}, lkW ws x = some u → lkW (ts.foldl (putW n f) ws) x = some u
  | [], _, _, _, h => h
  | t :: r, ws, x, u, h => by rw [List.foldl_cons]; exact lkW_putsW (lkW_putW h)
/-- a library whose rows are ws -/
structure LbW (K : PySem.W.Frag) (CL CM : Addr) (H : Hp) (z dx mi dR dE : Addr) (n f : Int) (its : List It4) (ws : List KN) (qs : List (Int × Addr × List Int)) : Prop where
  L : LibAt K CL CM H z dx mi dR dE n f (ksW ws) qs
  q : QsW ws qs
  ts : ∀ x ∈ ws, ∃ t ∈ its, x = kwOf n f t
  nd : (ws.map fun x => x.1).Nodup
theorem LbW.kp {K : PySem.W.Frag} {CL CM : Addr} {H H' : Hp} {z dx mi dR dE : Addr} {n f : Int} {its : List It4} {ws : List KN} {qs : List (Int × Addr × List Int)} (h : LbW K CL CM H z dx mi dR dE n f its ws qs) (k : Kp [] H H') : LbW K CL CM H' z dx mi dR dE n f its ws qs := ⟨h.L.kp k, h.q, h.ts, h.nd⟩
theorem LbW.know {K : PySem.W.Frag} {CL CM : Addr} {H H0 : Hp} {z dx mi dR dE w m l1 d l3 : Addr} {n f : Int} {its : List It4} {ws : List KN} {qs : List (Int × Addr × List Int)} (h : LbW K CL CM H z dx mi dR dE n f its ws qs) (W : WAt K H0 w m l1 d l3 n f its) : Know n f (ksW ws) qs :=
  know_W (fun x mx => by obtain ⟨t, tm, rfl⟩ := h.ts x mx; exact ⟨rfl, (W.it t tm).2.2⟩) h.nd h.q h.L.only
/-- a world beside dicts of numbers that are written -/
theorem WAt.dks {K : PySem.W.Frag} {A : List Addr} {H H' : Hp} {w m l1 d l3 : Addr} {n f : Int} {its : List It4} (h : WAt K H w m l1 d l3 n f its) (k : Kp A H H') (hA : ∀ l ∈ A, ∃ kvs, H l = some (.dK kvs)) : WAt K H' w m l1 d l3 n f its := by
  have kp : ∀ {q o}, H q = some o → (∀ kvs, o ≠ .dK kvs) → H' q = some o := fun {q o} e nk => k.at (fun m => by
    obtain ⟨kvs, z⟩ := hA q m
    rw [e] at z
    exact nk _ (Option.some.inj z)) e
  exact ⟨kp h.hw (by intro _ z; cases z), k.tup h.hm, kp h.h1 (by intro _ z; cases z), kp h.hd (by intro _ z; cases z), fun t m => ⟨k.t _ _ (h.it t m).1, kp (h.it t m).2.1 (by intro _ z; cases z), (h.it t m).2.2⟩, h.ds⟩
theorem dks_lst {A : List Addr} {H H' : Hp} {q : Addr} {xs : List V} (k : Kp A H H') (hA : ∀ l ∈ A, ∃ kvs, H l = some (.dK kvs)) (e : H q = some (.lst xs)) : H' q = some (.lst xs) := k.at (fun m => by
  obtain ⟨kvs, z⟩ := hA q m
  rw [e] at z; cases z) e
theorem nds_three (b f : Int) : ∀ (k : Nat) (es : List Int), es.length ≤ k → ∀ r ∈ nds b f es, r.length = 3
  | 0, es, h, r, m => by
    rw [nds_one (by omega)] at m; cases m
  | k + 1, es, h, r, m => by
    by_cases h2 : 2 ≤ es.length
    · have hb := hf_lt h2; have hp0 := hf_pos es.length
      rw [nds_two h2] at m
      rcases List.mem_cons.mp m with z | z
      · rw [z]; rfl
      · rcases List.mem_append.mp z with z | z
        · exact nds_three b f k _ (by rw [List.length_take]; omega) r z
        · exact nds_three b f k _ (by rw [List.length_drop]; omega) r z
    · rw [nds_one h2] at m; cases m
def sp_putAll (K : PySem.W.Frag) (CL CM : Addr) : Sp := fun vs H Q _ => ∃ (z w m l1 d l3 L mi dR dE dx : Addr) (n f : Int) (its ts : List It4) (ws : List KN) (qs : List (Int × Addr × List Int)), vs = [.ref z, .ref w, .ref L] ∧ WAt K H w m l1 d l3 n f its ∧ H L = some (.lst (ts.map fun t => .ref t.1)) ∧ (∀ t ∈ ts, t ∈ its) ∧ LbW K CL CM H z dx mi dR dE n f its ws qs ∧ ws.length ≤ 100 ∧ ts.length ≤ 100 ∧ qs.length ≤ 100 ∧ 0 < n ∧
  ∀ qs' H', Kp [dR, dE] H H' → LbW K CL CM H' z dx mi dR dE n f its (ts.foldl (putW n f) ws) qs' → qs'.length ≤ qs.length + ts.length → Q (.bl true) H'
/-- what putting a thing in tells -/
def ClO (n f : Int) (o : Option (List Int × List Int)) : Prop := ∀ a b, o = some (a, b) → a ≠ b ∧ dig n f a = dig n f b ∧ a.length ≤ 10000 ∧ b.length ≤ 10000
theorem ok__law_put_all (T : Txt P w K mg base) : DefOk P w K mg base "_law_put_all" ["library", "world", "rows"] 18 (sp_putAll K T.C_Library T.C_Mixing) := by
  refine DefOk.by T.d__law_put_all sc__law_put_all oc__law_put_all (fun vs H Q E h => ?_) (fun X e1 e2 e3 e4 e5 C H vs Q E h => ?_)
  · obtain ⟨z, w, m, l1, d, l3, L, mi, dR, dE, dx, n, f, its, ts, ws, qs, rfl, _⟩ := h; rfl
  · obtain ⟨z, w, m, l1, d, l3, L, mi, dR, dE, dx, n, f, its, ts, ws, qs, rfl, W, hL, hts, lb, lw, lt, lq, hn, q⟩ := h
    wtm_at "go"
    refine xs_forL C ?_
    wtm_at "w"
    have hA : ∀ l ∈ [dR, dE], ∃ kvs, H l = some (.dK kvs) := by
      intro l m
      simp only [List.mem_cons, List.not_mem_nil, or_false] at m
      rcases m with rfl | rfl
      · exact ⟨_, lb.L.hR⟩
      · exact ⟨_, lb.L.hE⟩
    refine ⟨L, _, rfl, Z.SqL.of' hL, fun i σ H' => ∃ (v3 v4 : Option V) (qs' : List (Int × Addr × List Int)), σ = [some (.ref z), some (.ref w), some (.ref L), v3, v4] ∧ Kp [dR, dE] H H' ∧ LbW X.K T.C_Library T.C_Mixing H' z dx mi dR dE n f its ((ts.take i).foldl (putW n f) ws) qs' ∧ ((ts.take i).foldl (putW n f) ws).length ≤ ws.length + i ∧ qs'.length ≤ qs.length + i, ⟨_, _, qs, rfl, Kp.refl _ _, lb, by simp, by omega⟩, ?_, ?_, ?_⟩
    · rintro i σ' H' _ ⟨v3, v4, qs', rfl, k, _⟩
      exact Z.SqL.of' (dks_lst k hA hL)
    · rintro i y σ' H1 hy ⟨v3, v4, qs', rfl, k1, b1, lw1, lq1⟩
      have hj : i < ts.length := by
        have := (List.getElem?_eq_some_iff.mp hy).1
        rwa [List.length_map] at this
      have tm0 := List.getElem_mem hj
      have ey : V.ref ts[i].1 = y := by
        rw [List.getElem?_map, List.getElem?_eq_getElem hj] at hy
        exact Option.some.inj hy
      subst ey
      have gs : ts[i]? = some ts[i] := List.getElem?_eq_getElem hj
      have tm := hts _ tm0
      have efold : (ts.take (i + 1)).foldl (putW n f) ws = putW n f ((ts.take i).foldl (putW n f) ws) ts[i] := by rw [take_snoc gs, List.foldl_append]; rfl
      generalize ts[i] = t at tm efold
      generalize (ts.take i).foldl (putW n f) ws = ws1 at b1 lw1 efold
      have W1 := W.dks k1 hA
      obtain ⟨g1, g2, wt⟩ := W1.it t tm
      have hw1 := W1.hw
      have gl := wt.len
      have el := wt.el
      have gt := Z.SqT.of' (K := X.K) g1
      have know := b1.know W1
      have dW : DGet H1 d (.ref t.1) (some (.ref t.2.1)) := .inr ⟨_, keyOf t.2.2.1, t.1, .inl W1.hd, rfl, by rw [keyOf_kV]; exact g1, by rw [valV_kvsW, W1.ds t tm]; rfl⟩
      have wl : ∀ x ∈ ws1, x.2.2.2.1.length ≤ 10000 := fun x mx => by
        obtain ⟨t', m', rfl⟩ := b1.ts x mx
        have := (W1.it t' m').2.2.len
        show t'.2.2.1.length ≤ 10000; omega
      have m1 := W1.hm
      have hid1 : Kp [dR, dE] H H1 ∧ True := ⟨k1, trivial⟩
      clear k1 hy
      refine xg_name C (by wtm_at "m") (by wtm_at "m") ?_
      refine ⟨_, by wtm_at "u", ?_⟩
      refine xb_cons (XS.imp (nx := fun σ H' => ∃ (v : V) (o : Option (List Int × List Int)) (qs2 : List (Int × Addr × List Int)), σ = [some (.ref z), some (.ref w), some (.ref L), some (.ref t.1), some v] ∧ Kp [dR, dE] H H' ∧ Dp X.K H' v (unD o) ∧ ClO n f o ∧ LbW X.K T.C_Library T.C_Mixing H' z dx mi dR dE n f its (putW n f ws1 t) qs2 ∧ qs2.length ≤ qs'.length + 1) ?_ ?_)
      · refine xs_set C ?_ (hx := by wtm_at "m") (hl := by wtm_at "m")
        refine xe_methX C (ok_put T) takes0 T.cl_Library (by omega) ?_
        wtm_at "w"
        refine ⟨z, dx, _, rfl, b1.L.ha, lib_no mi dR dE (by decide +kernel) (by decide +kernel) (by decide +kernel), ?_⟩
        wtm_at "w"
        refine vx_dict (by assumption) dW ?_
        wtm_at "w"
        refine vc_listL (Z.SqL.of' g2) (fun e H2 k2 ne he => ?_)
        have b2 := b1.kp k2
        have gt2 := k2.tup gt
        have hid2 : Kp [dR, dE] H H2 ∧ True := ⟨hid1.1.tr0 k2, trivial⟩
        clear k2 b1 hid1 W1 dW hw1
        wtm_at "w"
        have lk0 : (ksW ws1).length ≤ 200 := by unfold ksW; rw [List.length_map]; omega
        have cnone : ClO n f none := fun _ _ z => nomatch z
        refine ⟨z, t.1, e, mi, dR, dE, dx, n, f, t.2.2.1, t.2.2.2, ksW ws1, qs', rfl, b2.L, hn, gt2, he, by omega, by omega, by omega, fun wy hy => absurd (hy.symm.trans wt.why) (by simp), fun _ => ?_⟩
        refine ⟨fun h0 c H3 k3 nc L3 => ?_, fun z0 h0 h1 p H3 k3 hp => ?_, fun z0 h0 h1 h2 H3 k3 => ?_, fun z0 y0 h0 h1 h2 h3 h4 h5 h6 v H3 k3 hv => ?_⟩
        · have hk0 : lkW ws1 (dig n f t.2.2.1) = none := by
            rw [lkA_ksW] at h0
            cases hh : lkW ws1 (dig n f t.2.2.1) with
            | none => rfl
            | some u => rw [hh] at h0; cases h0
          have ep : putW n f ws1 t = ws1 ++ [kwOf n f t] := by unfold putW; rw [if_pos hk0]
          have ek : ksW ws1 ++ [(dig n f t.2.2.1, t.1, t.2.2.1)] = ksW (ws1 ++ [kwOf n f t]) := by unfold ksW; rw [List.map_append]; rfl
          rw [ek] at L3
          have hq0 : lkA qs' (kwOf n f t).1 = none := b2.L.only _ h0
          have qw := QsW.add (x := kwOf n f t) (c := c) b2.q (fun x mx => lkW_none hk0 x mx) hq0
          have lq' : (if t.2.2.1.getD 0 0 = 4 then qs' ++ [(dig n f t.2.2.1, c, t.2.2.2)] else qs').length ≤ qs'.length + 1 := by
            split
            · simp
            · omega
          refine ⟨_, by wtm_at "u", .non, none, _, rfl, hid2.1.tr k3 (fun l m => .inl m), .non, cnone, ?_, lq'⟩
          rw [ep]
          refine ⟨L3, qw, fun x mx => ?_, ?_⟩
          · rcases List.mem_append.mp mx with y | y
            · exact b2.ts x y
            · exact ⟨t, tm, List.mem_singleton.mp y⟩
          · rw [List.map_append, List.nodup_append]
            refine ⟨b2.nd, by simp, fun x hx y hy => ?_⟩
            obtain ⟨u, hu, rfl⟩ := List.mem_map.mp hx
            have ey : y = dig n f t.2.2.1 := by simpa [kwOf] using hy
            rw [ey]; exact lkW_none hk0 u hu
        all_goals
          have hk0 : lkW ws1 (dig n f t.2.2.1) ≠ none := fun e0 => by rw [lkA_ksW, e0] at h0; cases h0
          have ep : putW n f ws1 t = ws1 := by unfold putW; rw [if_neg hk0]
          have kk := (hid2.1.tr0 k3 : Kp [dR, dE] H H3)
          have b3 := b2.kp k3
        · have hz := lkA_mem h0
          have ky : dig n f t.2.2.1 = dig n f z0.2 := know.ky _ hz
          have hzr := k3.tup (b2.L.rows _ hz)
          have lz : z0.2.length ≤ 10000 := by
            unfold ksW at hz
            obtain ⟨u, mu, e0⟩ := List.mem_map.mp hz
            have := wl u mu
            have e1 : u.2.2.2.1 = z0.2 := congrArg (fun x => x.2.2) e0
            rw [← e1]; exact this
          refine ⟨_, by wtm_at "u", .ref p, some (z0.2, t.2.2.1), qs', rfl, kk, .tup hp (.cons (dp_T hzr) (.cons (dp_T (k3.tup gt2)) .nil)), ?_, by rw [ep]; exact b3, by omega⟩
          rintro a b ⟨rfl, rfl⟩
          exact ⟨h1, ky.symm, lz, by omega⟩
        · exact ⟨_, by wtm_at "u", .non, none, qs', rfl, kk, .non, cnone, by rw [ep]; exact b3, by omega⟩
        · refine ⟨_, by wtm_at "u", v, _, qs', rfl, kk, hv, ?_, by rw [ep]; exact b3, by omega⟩
          intro a b e0
          have := fdiff_some (b := n) (f := f) y0.2.length y0.2 t.2.2.2 a b (Nat.le_refl _) h4 (by omega) h5 e0
          have l1 := nds_three n f _ _ (Nat.le_refl _) a (fdiff_mem e0).1
          have l2 := nds_three n f _ _ (Nat.le_refl _) b (fdiff_mem e0).2
          exact ⟨this.1, this.2.1, by omega, by omega⟩
      · rintro σ2 H2 ⟨v, o, qs2, rfl, k2, dv, co, b2, lq2⟩
        have lp : (putW n f ws1 t).length ≤ ws1.length + 1 := by
          unfold putW
          split
          · simp
          · omega
        have W2 := W.dks k2 hA
        have hw2 := W2.hw
        have m2 := W2.hm
        have hid2 : Kp [dR, dE] H H2 ∧ True := ⟨k2, trivial⟩
        clear k2 W1 hw1 m1 gt dW hid1 b1
        cases o with
        | none =>
          cases dv
          wtm_at "w"
          refine ite_nd (fun e => absurd rfl e) (fun _ => ?_)
          refine L2.iteF ?_
          wtm_at "w"
          refine ite_nd (fun e => absurd rfl e) (fun _ => ?_)
          refine L2.iteF ?_
          wtm_at "w"
          exact ⟨_, _, qs2, rfl, hid2.1, by rw [efold]; exact b2, by rw [efold]; omega, by omega⟩
        | some ab =>
          obtain ⟨a, b⟩ := ab
          obtain ⟨c1, c2, c3, c4⟩ := co a b rfl
          have dv : Dp X.K H2 v (.tuple [.tuple (a.map PyData.int), .tuple (b.map PyData.int)]) := dv
          obtain ⟨ta, vs2, rfl, hta, da⟩ := dp_tupI dv
          obtain ⟨x1, x2, rfl, d1, d2⟩ := dpAll2 da
          obtain ⟨pa, rfl, hpa⟩ := dp_Tinv d1
          obtain ⟨pb, rfl, hpb⟩ := dp_Tinv d2
          clear dv da d1 d2
          wtm_at "w"
          refine ite_nd (fun _ => ?_) (fun e => nomatch e)
          wtm_at "w"
          refine vc_isi (t := "tuple") (u := true) (ty_T hta) (by decide +kernel) ?_
          wtm_at "w"
          refine ite_nd (fun h => absurd (by simp) h) (fun _ => ?_)
          wtm_at "w"
          refine vo_eqT C hpa hpb ?_
          rw [decide_eq_false c1]
          wtm_at "w"
          refine ite_nd (fun _ => ?_) (fun e => nomatch e)
          wtm_at "w"
          refine ⟨m, pa, n, f, a, rfl, m2, hpa, hn, c3, fun H3 k3 => ?_⟩
          have hta3 := k3.tup hta
          have hpb3 := k3.tup hpb
          have hw3 := k3.at0 hw2
          have m3 := k3.tup m2
          have b3 := b2.kp k3
          have hid3 : Kp [dR, dE] H H3 ∧ True := ⟨hid2.1.tr0 k3, trivial⟩
          clear k3 hta hpb hpa hw2 m2 b2 W2 hid2
          wtm_at "w"
          refine ⟨m, pb, n, f, b, rfl, m3, hpb3, hn, c4, fun H4 k4 => ?_⟩
          have b4 := b3.kp k4
          have kk : Kp [dR, dE] H H4 := hid3.1.tr0 k4
          clear k4
          wtm_at "w"
          refine ite_nd (fun h => absurd c2 h) (fun _ => ?_)
          wtm_at "w"
          exact ⟨_, _, qs2, rfl, kk, by rw [efold]; exact b4, by rw [efold]; omega, by omega⟩
    · rintro σ' H1 ⟨v3, v4, qs', rfl, k1, b1, lw1, lq1⟩
      rw [List.length_map] at lq1 lw1 b1
      rw [List.take_length] at b1
      wtm_at "w"
      exact q qs' H1 k1 b1 (by omega)
end
/-! libLk -/
/-! a library beside a dict that is locked, and free again -/
theorem kp_shrink {A B : List Addr} {H H' : Hp} (a : Kp A H H') (h : ∀ l ∈ A, l ∈ B ∨ H l = none) : Kp B H H' := (Kp.refl B H).tr a h
section
variable {K : PySem.W.Frag} {CL CM a dx mx dR dE S : Addr} {H H' : Hp} {n f : Int} {ks qs : List (Int × Addr × List Int)}
theorem LibAt.new0 (ha : H a = some (.ins CL dx (libF mx dR dE))) (hx : Mx CM H mx n f) (hR : H dR = some (.dK [])) (hE : H dE = some (.dK [])) (ne : dR ≠ dE) : LibAt K CL CM H a dx mx dR dE n f [] [] :=
  ⟨ha, hx, hR, hE, ne, fun _ m => (nomatch m), fun _ m => (nomatch m), fun _ _ h => (nomatch h), fun _ _ => rfl⟩
theorem LibAt.lockS {kv : List (Key × V)} (h : LibAt K CL CM H a dx mx dR dE n f ks qs) (hS : H S = some (.dK kv)) (k : Kp [S] H H') (nR : dR ≠ S) (nE : dE ≠ S) : LibAt K CL CM H' a dx mx dR dE n f ks qs := by
  obtain ⟨dm, hm⟩ := h.hx
  exact ⟨k.at1 (ne_of h.ha hS (by intro z; cases z)) h.ha, ⟨dm, k.at1 (ne_of hm hS (by intro z; cases z)) hm⟩, k.at1 nR h.hR, k.at1 nE h.hE, h.ne, fun z m => k.tup (h.rows z m), fun z m => k.at1 (ne_of (h.ents z m) hS (by intro z; cases z)) (h.ents z m), h.both, h.only⟩
theorem LibAt.free {od : Obj} {u o : HO} (h : LibAt K CL CM H a dx mx dR dE n f ks qs) (hS : H S = some (.frz od u)) (hu : ∀ xs, u ≠ .tup xs) : LibAt K CL CM (upd H S o) a dx mx dR dE n f ks qs := by
  have kp : ∀ {q x}, H q = some x → (∀ o' u', x ≠ .frz o' u') → upd H S o q = some x := fun {q x} e nx => by
    rw [upd_ne (fun z => by rw [z, hS] at e; exact nx _ _ (Option.some.inj e).symm)]; exact e
  obtain ⟨dm, hm⟩ := h.hx
  refine ⟨kp h.ha (by intro _ _ z; cases z), ⟨dm, kp hm (by intro _ _ z; cases z)⟩, kp h.hR (by intro _ _ z; cases z), kp h.hE (by intro _ _ z; cases z), h.ne, fun z m => ?_, fun z m => kp (h.ents z m) (by intro _ _ z; cases z), h.both, h.only⟩
  rcases h.rows z m with (e | ⟨o', e⟩) | e
  · exact .inl (.inl (kp e (by intro _ _ z; cases z)))
  · refine .inl (.inr ⟨o', ?_⟩)
    rw [upd_ne (fun q => by
      rw [q, hS] at e
      have := Option.some.inj e
      cases this
      exact hu _ rfl)]; exact e
  · exact .inr e
end
/-! law -/
section
local macro_rules | `(tactic| wtm_at "d") => `(tactic| first | ((with_reducible show Z.XE _ (PySem.Expr.Call (PySem.Expr.Name "int" _) (_ :: _) [] _) _ _ _); refine Z.xe_callTy (id := "int") (by assumption) (by wtm_at "m") T.b_int (by decide +kernel) ?_) | ((with_reducible show Z.XE _ (PySem.Expr.Name "int" _) _ _ _); refine Z.xe_ty (id := "int") (by assumption) (by wtm_at "m") T.b_int (by decide +kernel) ?_) | ((with_reducible show Z.XE _ (PySem.Expr.Call (PySem.Expr.Name "len" _) (_ :: _) [] _) _ _ _); refine Z.xe_callB (id := "len") (by assumption) (by wtm_at "m") T.b_len (by decide +kernel) ?_) | ((with_reducible show Z.XE _ (PySem.Expr.Call (PySem.Expr.Name "list" _) (_ :: _) [] _) _ _ _); refine Z.xe_callTy (id := "list") (by assumption) (by wtm_at "m") T.b_list (by decide +kernel) ?_) | ((with_reducible show Z.XE _ (PySem.Expr.Name "list" _) _ _ _); refine Z.xe_ty (id := "list") (by assumption) (by wtm_at "m") T.b_list (by decide +kernel) ?_) | ((with_reducible show Z.XE _ (PySem.Expr.Call (PySem.Expr.Name "trace" _) (_ :: _) [] _) _ _ _); refine Z.xe_call (by assumption) (Law.ok_trace T) (by wtm_at "m") (by omega) ?_) | ((with_reducible show Z.XE _ (PySem.Expr.Call (PySem.Expr.Name "_law_row" _) (_ :: _) [] _) _ _ _); refine Z.xe_call (by assumption) (Law.ok__law_row T) (by wtm_at "m") (by omega) ?_) | ((with_reducible show Z.XE _ (PySem.Expr.Call (PySem.Expr.Name "_law_draw" _) (_ :: _) [] _) _ _ _); refine Z.xe_call (by assumption) (Law.ok__law_draw T) (by wtm_at "m") (by omega) ?_) | ((with_reducible show Z.XE _ (PySem.Expr.Call (PySem.Expr.Name "_law_walk" _) (_ :: _) [] _) _ _ _); refine Z.xe_call (by assumption) (Law.ok__law_walk T) (by wtm_at "m") (by omega) ?_) | ((with_reducible show Z.XE _ (PySem.Expr.Call (PySem.Expr.Name "_law_made_world" _) (_ :: _) [] _) _ _ _); refine Z.xe_call (by assumption) (Law.ok__law_made_world T) (by wtm_at "m") (by omega) ?_) | ((with_reducible show Z.XE _ (PySem.Expr.Call (PySem.Expr.Name "_law_closed" _) (_ :: _) [] _) _ _ _); refine Z.xe_call (by assumption) (Law.ok__law_closed T) (by wtm_at "m") (by omega) ?_) | ((with_reducible show Z.XE _ (PySem.Expr.Call (PySem.Expr.Name "_law_trace_ok" _) (_ :: _) [] _) _ _ _); refine Z.xe_call (by assumption) (Law.ok__law_trace_ok T) (by wtm_at "m") (by omega) ?_) | ((with_reducible show Z.XE _ (PySem.Expr.Call (PySem.Expr.Name "_law_put_all" _) (_ :: _) [] _) _ _ _); refine Z.xe_call (by assumption) (Law.ok__law_put_all T) (by wtm_at "m") (by omega) ?_) | ((with_reducible show Z.XE _ (PySem.Expr.Call (PySem.Expr.Name "Mixing" _) (_ :: _) [] _) _ _ _); refine Z.xe_make (by assumption) (Law.ok_Mixing T) (by wtm_at "m") (by omega) ?_) | ((with_reducible show Z.XE _ (PySem.Expr.Call (PySem.Expr.Name "Paper" _) (_ :: _) [] _) _ _ _); refine Z.xe_make (by assumption) (Law.ok_Paper T) (by wtm_at "m") (by omega) ?_) | ((with_reducible show Z.XE _ (PySem.Expr.Call (PySem.Expr.Name "Library" _) (_ :: _) [] _) _ _ _); refine Z.xe_make (by assumption) (Law.ok_Library T) (by wtm_at "m") (by omega) ?_) | fail)
theorem ts_ofW {n f : Int} {its : List It4} : ∀ {ws : List KN}, (∀ x ∈ ws, ∃ t ∈ its, x = kwOf n f t) → ∃ ts : List It4, ws = ts.map (kwOf n f) ∧ ∀ t ∈ ts, t ∈ its
  | [], _ => ⟨[], rfl, fun _ m => nomatch m⟩
  | w :: r, h => by
    obtain ⟨t, tm, e⟩ := h w List.mem_cons_self
    obtain ⟨ts, e2, h2⟩ := ts_ofW (ws := r) (fun x m => h x (List.mem_cons_of_mem _ m))
    refine ⟨t :: ts, by rw [e, e2]; rfl, fun x m => ?_⟩
    rcases List.mem_cons.mp m with z | z
    · rw [z]; exact tm
    · exact h2 x z
theorem puts_all {n f : Int} : ∀ {ts : List It4} {ws : List KN}, ((ws ++ ts.map (kwOf n f)).map fun x => x.1).Nodup → ts.foldl (putW n f) ws = ws ++ ts.map (kwOf n f)
  | [], ws, _ => by simp
  | t :: r, ws, h => by
    have hk : lkW ws (dig n f t.2.2.1) = none := by
      rw [List.map_append, List.nodup_append] at h
      refine lkW_not fun w m e => ?_
      exact h.2.2 w.1 (List.mem_map_of_mem (f := fun x : KN => x.1) m) (dig n f t.2.2.1) (by simp [kwOf]) e
    rw [List.foldl_cons]
    have e : putW n f ws t = ws ++ [kwOf n f t] := by unfold putW; rw [if_pos hk]
    rw [e, puts_all (by rw [List.append_assoc]; exact h), List.append_assoc]; rfl
theorem noL_trD (t : Tr) : noL (trD t) = true := by
  cases t with
  | known => rfl
  | unknown k => rfl
  | clash a b => simp [trD, noL, noLs, noLs_ints]
/-- a paper that was traced -/
def Gd81 (n f : Int) (ws : List KN) (x : List Int × List Stp) : Prop := okW n f x.1 x.2 ∧ (∃ z, lkA (ksW ws) (dig n f (lastR x.1 x.2)) = some (z, lastR x.1 x.2)) ∧ (∀ r ∈ x.1 :: x.2.map (·.1), r.length ≤ 10000) ∧ x.2.length ≤ 6
structure S81 (K : PySem.W.Frag) (Hb H : Hp) (b r P T : Addr) (n f : Int) (ws : List KN) (qs : List (Int × Addr × List Int)) (us vs : List V) : Prop where
  k : Kp [b] Hb H
  bx : Box H b r
  hP : H P = some (.lst us)
  hT : H T = some (.lst vs)
  nP : P ≠ b ∧ P ≠ r
  nT : T ≠ b ∧ T ≠ r ∧ P ≠ T
  fr : Hb P = none ∧ Hb T = none
  ln : us.length = vs.length
  it : ∀ (i : Nat) (v : V), us[i]? = some v → ∃ x y, PpQ K [P, T] H v x ∧ vs[i]? = some y ∧ Dp K H y (trD (traceN n f (ksW ws) qs x.1 x.2)) ∧ Gd81 n f ws x
section
variable {K : PySem.W.Frag} {Hb H H' : Hp} {b r P T : Addr} {n f : Int} {ws : List KN} {qs : List (Int × Addr × List Int)} {us vs : List V}
theorem S81.kp (h : S81 K Hb H b r P T n f ws qs us vs) (k : Kp [] H H') : S81 K Hb H' b r P T n f ws qs us vs :=
  ⟨h.k.tr0 k, h.bx.kp k, k.at0 h.hP, k.at0 h.hT, h.nP, h.nT, h.fr, h.ln, fun i v e => by
    obtain ⟨x, y, a1, a2, a3, a4⟩ := h.it i v e
    exact ⟨x, y, a1.kp k, a2, dp_kp k a3, a4⟩⟩
theorem S81.draw (h : S81 K Hb H b r P T n f ws qs us vs) (k : Kp [b] H H') (b' : Box H' b r) : S81 K Hb H' b r P T n f ws qs us vs :=
  ⟨h.k.tr k (fun l m => .inl m), b', k.at1 h.nP.1 h.hP, k.at1 h.nT.1 h.hT, h.nP, h.nT, h.fr, h.ln, fun i v e => by
    obtain ⟨x, y, a1, a2, a3, a4⟩ := h.it i v e
    exact ⟨x, y, a1.safe h.bx k (fun l m => .inl (List.mem_singleton.mp m)), a2, dp_kpT k (noL_trD _) a3, a4⟩⟩
end
theorem fn_law {f : Addr} {fd : FuncData} (T : Txt P w K mg base) (F : Fun K "law" "law" s_law f fd) : FnOk P w K mg base CX0 30 f fd ["script"] (sp_law K) := by
  refine fnOk_by F sc_law oc_law (fun vs H Q E h => ?_) (fun X e1 e2 e3 e4 e5 C H vs Q E h => ?_)
  · obtain ⟨a, ns, rfl, _⟩ := h; rfl
  · obtain ⟨a, ns, rfl, hS, hl, q⟩ := h
    wtm_at "go"
    wtm_at "w"
    refine ⟨a, ns, 0, 63, rfl, hS, by decide, by decide, by decide, by decide, fun r H1 rs k1 nr hr hrs => ?_⟩
    wtm_at "w"
    intro b H2 k2 nb hb
    have bx : Box H2 b r := ⟨0, rs, hb, by decide, k2.at0 hr⟩
    clear k1 k2
    wtm_at "w"
    refine ⟨b, r, 840, rfl, bx, by decide, fun c H3 c0 c1 k3 b3 => ?_⟩
    clear k3 bx hb hr
    wtm_at "w"
    refine ⟨b, r, (2 + c % 23).toNat, by rw [Int.toNat_of_nonneg (by omega)], b3, by omega, by omega, fun w m l1 d l3 n f its H4 k4 b4 W4 n2 n64 f2 fP i1 i2 nw => ?_⟩
    have li : its.length ≤ 24 := by omega
    have hw4 := W4.hw
    have h14 := W4.h1
    have hn : 0 < n := by omega
    clear k4 b3 c0 c1 i2 n2 n64 f2 fP nw
    wtm_at "w"
    refine ⟨b, r, _, rfl, b4, by rw [List.length_map]; omega, fun v H5 v0 v1 k5 b5 => ?_⟩
    rw [List.length_map] at v1
    obtain ⟨j, rfl⟩ := Int.eq_ofNat_of_zero_le v0
    have W5 := W4.draw b4 k5
    have hw5 := W5.hw
    have hm5 := W5.hm
    have h15 := W5.h1
    clear k5 b4 W4 hw4 h14
    wtm_at "w"
    refine vsl_lst (Z.SqL.of' h15) (fun l1' H6 k6 nl1 hl1 => ?_)
    rw [show (1 + (j : Int)) = ((1 + j : Nat) : Int) by omega] at hl1
    rw [cut_take _ (1 + j) (by rw [List.length_map]; omega), ← List.map_take] at hl1
    have hid6 : Kp [] H5 H6 ∧ True := ⟨k6, trivial⟩
    have hw6 := k6.at0 hw5
    have hm6 := k6.tup hm5
    clear k6
    wtm_at "w"
    intro w' H7 k7 nw' hw'
    have W7 := (W5.kp hid6.1).kp k7
    have cat : CAt X.K H7 w' m l1' d [] n f (its.take (1 + j)) its := ⟨hw', k7.tup hm6, k7.at0 hl1, W7.hd, fun t tm => W7.it t (List.mem_of_mem_take tm), fun t tm => W7.ds t (List.mem_of_mem_take tm)⟩
    have hid7 : Kp [] H5 H7 ∧ True := ⟨hid6.1.tr0 k7, trivial⟩
    clear k7 hid6 W7 hw' hw6 hm6 hl1 nl1 nw'
    wtm_at "w"
    refine ⟨w', m, l1', d, [], n, f, its.take (1 + j), its, rfl, cat, by rw [List.length_take]; omega, hn, fun S ws H8 k8 nS hS8 hws nd lws cls => ?_⟩
    have hws' : ∀ x ∈ ws, ∃ t ∈ its, x = kwOf n f t := fun x mx => by
      obtain ⟨t, tm, e⟩ := hws x mx
      exact ⟨t, List.mem_of_mem_take tm, e⟩
    rw [List.length_take] at lws
    obtain ⟨ts, ets, hts⟩ := ts_ofW hws'
    have hid8 : Kp [] H5 H8 ∧ True := ⟨hid7.1.tr0 k8, trivial⟩
    have hm8 := hid8.1.tup hm5
    have nS5 := hid7.1.n _ nS
    clear k8 cat hid7 hws nS
    wtm_at "w"
    intro mi dm nz nd' nne
    refine ⟨mi, dm, n, f, rfl, upd_same, fun H9 k9 hz => ⟨rfl, ?_⟩⟩
    have k89 : Kp [] H8 H9 := (Kp.made nz nd' nne).tr1 k9 (.inr nz)
    have hz : Mx T.C_Mixing H9 mi n f := hz
    have hS9 := k89.at0 hS8
    have hid9 : Kp [] H5 H9 ∧ True := ⟨hid8.1.tr0 k89, trivial⟩
    clear k9 k89 nz nd' nne hid8 hS8 hm8
    wtm_at "w"
    intro z dx nz nd' nne
    refine ⟨z, dx, mi, rfl, upd_same, fun dR dE H10 k10 hz2 hR hE RE nR nE => ⟨rfl, ?_⟩⟩
    have kmk : Kp [] H9 (upd (upd H9 dx (.own z)) z (.ins T.C_Library dx [])) := Kp.made nz nd' nne
    have k910 : Kp [] H9 H10 := kmk.tr1 k10 (.inr nz)
    have L10 : LibAt X.K T.C_Library T.C_Mixing H10 z dx mi dR dE n f [] [] := .new0 hz2 (hz.kp k910) hR hE RE
    have RS : S ≠ dR := fun e => by
      have := kmk.n _ nR
      rw [← e, hS9] at this; cases this
    have ES : S ≠ dE := fun e => by
      have := kmk.n _ nE
      rw [← e, hS9] at this; cases this
    have nRE : ∀ l ∈ [dR, dE], H5 l = none := fun l m => by
      simp only [List.mem_cons, List.not_mem_nil, or_false] at m
      rcases m with rfl | rfl
      · exact hid9.1.n _ (kmk.n _ nR)
      · exact hid9.1.n _ (kmk.n _ nE)
    have hS10 := k910.at0 hS9
    have hid10 : Kp [] H5 H10 ∧ True := ⟨hid9.1.tr0 k910, trivial⟩
    clear k10 k910 hz hz2 hR hE kmk nR nE nz nd' nne hid9 hS9
    wtm_at "w"
    refine xs_lock hS10 (fun od H11 k11 h11 un => ?_)
    refine xs_setLc C (by wtm_at "m") (by decide +kernel) rfl (by decide +kernel) ?_
    refine xlc_K (Vs' := ["known", "number"]) (G' := []) (nm := "number") (i := 13) C ⟨rfl, by decide +kernel, by decide +kernel, rfl, by decide +kernel, by decide⟩ ?_
    wtm_at "w"
    refine ⟨S, od, seenK ws, rfl, h11, fun R H12 k12 nR hR12 => ⟨fun i H' => Kp [] H11 H' ∧ H' R = some (.lst ((ws.take i).map fun x => .ref x.2.1)), ⟨k12, hR12⟩, ?_, ?_, ?_⟩⟩
    · rintro i H' _ ⟨k, _⟩
      exact k.z _ _ _ h11
    · rintro i kk y H13 hi ⟨k13, hR13⟩
      clear k12
      unfold seenK at hi
      rw [List.getElem?_map] at hi
      cases hu : ws[i]? with
      | none => rw [hu] at hi; cases hi
      | some u =>
      rw [hu] at hi
      have hi := Prod.mk.inj (Option.some.inj hi)
      obtain ⟨rfl, rfl⟩ := hi
      have mu := List.mem_of_getElem? hu
      have lwu := lkW_nd nd u mu
      have dS : DGet H13 S (.int u.1) (some (.ref u.2.1)) := .inl ⟨_, .inl u.1, .inr ⟨od, k13.z _ _ _ h11⟩, rfl, by rw [valV_seenK, lwu]; rfl⟩
      refine ⟨_, by wtm_at "u", ?_⟩
      intro s0 H0 c' cl fp C'
      have hid13 : Kp [] H11 H13 ∧ True := ⟨k13, trivial⟩
      clear k13
      wtm_at "w"
      refine vx_dict C' dS ?_
      refine ⟨_, hR13, szl (by rw [List.length_map, List.length_take]; omega), fun H14 k14 h14 => ⟨hid13.1.tr1 k14 (.inr nR), ?_⟩⟩
      rw [h14, take_snoc hu, List.map_append]; rfl
    rintro H13 ⟨k13, hR13⟩
    have lse : (seenK ws).length = ws.length := by unfold seenK; rw [List.length_map]
    rw [lse, List.take_length] at hR13
    have h13 : H13 S = some (.frz od (.dK (seenK ws))) := k13.z _ _ _ h11
    have k1013 := un _ _ k13
    have nRS : R ≠ S := (ne_of_none h11 nR).symm
    have hR14 : (upd H13 S (.dK (seenK ws))) R = some (.lst (ws.map fun x => .ref x.2.1)) := by rw [upd_ne nRS]; exact hR13
    have h14 : (upd H13 S (.dK (seenK ws))) S = some (.dK (seenK ws)) := upd_same
    refine ⟨_, by wtm_at "u", h13, ?_⟩
    have nRb : R ≠ b := fun e => by
      obtain ⟨_, _, h, _⟩ := b5
      have := k11.there (hid10.1.at0 h)
      rw [← e] at this
      exact this nR
    generalize upd H13 S (.dK (seenK ws)) = H14 at hR14 h14 k1013
    have L14 := L10.kp k1013
    have k514 := hid10.1.tr0 k1013
    have W14 := W5.kp k514
    have hid14 : Kp [] H5 H14 ∧ True := ⟨k514, trivial⟩
    clear k11 h11 un k12 nR hR12 k13 hR13 h13 k1013 L10 hid10 hS10 k514 nRS
    have lts : ts.length = ws.length := by rw [ets, List.length_map]
    have eR : (ws.map fun x : KN => V.ref x.2.1) = ts.map fun t => V.ref t.1 := by rw [ets, List.map_map]; rfl
    have hR14' := hR14
    rw [eR] at hR14'
    wtm_at "w"
    refine ⟨z, w, m, l1, d, l3, R, mi, dR, dE, dx, n, f, its, ts, [], [], rfl, W14, hR14', hts, ⟨L14, (fun _ m => nomatch m), (fun _ m => nomatch m), .nil⟩, by decide, by omega, by decide, hn, fun qs H15 k15 lb15 lq => ?_⟩
    have epu : ts.foldl (putW n f) [] = ws := by rw [puts_all (by rw [List.nil_append, ← ets]; exact nd), List.nil_append, ← ets]
    rw [epu] at lb15
    have hA : ∀ l ∈ [dR, dE], ∃ kvs, H14 l = some (.dK kvs) := by
      intro l m
      simp only [List.mem_cons, List.not_mem_nil, or_false] at m
      rcases m with rfl | rfl
      · exact ⟨_, L14.hR⟩
      · exact ⟨_, L14.hE⟩
    have hR15 := dks_lst k15 hA hR14
    have h15' : H15 S = some (.dK (seenK ws)) := k15.at (by simp [RS, ES]) h14
    have k515 : Kp [] H5 H15 := kp_shrink ((hid14.1.wk (B := [dR, dE]) (fun l m => nomatch m)).tr k15 (fun l m => .inl m)) (fun l m => .inr (nRE l m))
    have W15 := W5.kp k515
    have know := lb15.know W15
    have gl := gaps_nil (fun x mx => by obtain ⟨t, tm, rfl⟩ := hws' x mx; exact (W15.it t tm).2.2) lb15.q cls
    have li15 := lb15.L.rd know
    have lR15 := lb15.L.hR
    have hid15 : Kp [] H5 H15 ∧ True := ⟨k515, trivial⟩
    clear k15 k515 hid14 L14 hR14 h14 hR14' W14 hA epu
    wtm_at "w"
    refine xe_meth0 C (ok_is_closed T) T.cl_Library (by omega) ?_
    wtm_at "w"
    refine ⟨z, dx, _, rfl, li15.ha, lib_no mi dR dE (by decide +kernel) (by decide +kernel) (by decide +kernel), ?_⟩
    refine ⟨z, mi, dR, dE, dx, n, f, ksW ws, qs, rfl, li15, lR15, by rw [gl]; decide, fun H16 k16 => ?_⟩
    rw [gl, show decide (([] : List (Int × Int)) = []) = true from rfl]
    have lb16 := lb15.kp k16
    have hR16 := k16.at0 hR15
    have h16 := k16.at0 h15'
    have hid16 : Kp [] H5 H16 ∧ True := ⟨hid15.1.tr0 k16, trivial⟩
    clear k16 li15 lR15 lb15 hR15 h15' hid15 W15
    wtm_at "w"
    refine ite_nd (fun e => absurd rfl e) (fun _ => ?_)
    wtm_at "w"
    intro P H17 k17 nP hP17
    have P5 := hid16.1.n _ nP
    have nPR : P ≠ R := (ne_of_none hR16 nP).symm
    have hid17 : Kp [] H16 H17 ∧ True := ⟨k17, trivial⟩
    clear k17
    wtm_at "w"
    intro TT H18 k18 nT hT18
    have T5 := hid16.1.n _ (hid17.1.n _ nT)
    have nTR : TT ≠ R := (ne_of_none (hid17.1.at0 hR16) nT).symm
    have nPT : P ≠ TT := ne_of_none hP17 nT
    have b16 := b5.kp hid16.1
    have s18 : S81 X.K H16 H18 b r P TT n f ws qs [] [] := ⟨(hid17.1.tr0 k18).wk (fun l m => nomatch m), (b16.kp hid17.1).kp k18, k18.at0 hP17, hT18, ⟨((b16.nl nP).1).symm, ((b16.nl nP).2).symm⟩, ⟨(((b16.kp hid17.1).nl nT).1).symm, (((b16.kp hid17.1).nl nT).2).symm, nPT⟩, ⟨nP, hid17.1.n _ nT⟩, rfl, fun i v e => by simp at e⟩
    clear k18 hP17 hT18 hid17 nP nT
    -- what stands at each later heap
    have W16 := W5.kp hid16.1
    have hm16 := W16.hm
    have rest : ∀ {H' : Hp}, Kp [b] H16 H' → WAt X.K H' w m l1 d l3 n f its ∧ H' R = some (.lst (ws.map fun x => .ref x.2.1)) ∧ DkAt H' S (seenK ws) ∧ LibRd X.K T.C_Library T.C_Mixing H' z dx mi dR dE n f (ksW ws) qs ∧ (∀ x ∈ ws, SqT X.K H' x.2.1 (x.2.2.2.1.map V.int)) := fun {H'} k =>
      ⟨W16.draw b16 k, k.at1 nRb hR16, .inl (b16.other k (fun _ z => nomatch z) h16), carB b16 k (lb16.L.rd know), fun x mx => by
        obtain ⟨t, tm, rfl⟩ := hws' x mx
        exact Z.SqT.of' ((W16.draw b16 k).it t tm).1⟩
    wtm_at "w"
    refine xs_forR1 C (by wtm_at "m") T.b_range ?_
    wtm_at "w"
    refine ⟨12, rfl, by decide, by decide, fun i σ H' => ∃ (v10 v11 : Option V) (us vs : List V), σ = [some (.ref a), some (.ref b), some (.ref w), some (.ref m), some (.int (1 + (j : Int))), some (.ref S), some (.ref z), some (.ref R), some (.ref P), some (.ref TT), v10, v11, none, none] ∧ S81 X.K H16 H' b r P TT n f ws qs us vs ∧ us.length ≤ i, ⟨_, _, [], [], rfl, s18, by decide⟩, ?_, ?_⟩
    · rintro i σ' H19 hi ⟨v10, v11, us, vs, rfl, s19, lus⟩
      have hi12 : i < 12 := hi
      clear s18
      obtain ⟨W19, hR19, _, _, _⟩ := rest s19.k
      wtm_at "w"
      rw [List.length_map]
      refine ite_d (fun hl0 => ?_) (fun hl0 => ?_)
      · have hl0' : 0 < ws.length := by omega
        wtm_at "w"
        refine ⟨b, r, _, rfl, s19.bx, by rw [List.length_map]; omega, fun v H20 v0 v1 k20 b20 => ?_⟩
        rw [List.length_map] at v1
        obtain ⟨jj, rfl⟩ := Int.eq_ofNat_of_zero_le v0
        have s20 := s19.draw k20 b20
        clear k20 b20 s19 W19 hR19
        obtain ⟨W20, hR20, _, _, _⟩ := rest s20.k
        have hjj : jj < ws.length := by omega
        have mu : ws[jj] ∈ ws := List.getElem_mem hjj
        have hui : (ws.map fun x : KN => V.ref x.2.1)[jj]? = some (.ref ws[jj].2.1) := by rw [List.getElem?_map, List.getElem?_eq_getElem hjj]; rfl
        generalize ws[jj] = u at mu hui
        obtain ⟨t, tm, eu⟩ := hws' u mu
        have e2 : u.2.1 = t.1 := by rw [eu]; rfl
        have e1 : u.1 = dig n f t.2.2.1 := by rw [eu]; rfl
        rw [e2] at hui
        refine vx_lst (Z.SqL.of' hR20) (at_nat hui) ?_
        wtm_at "w"
        refine ⟨b, r, w, m, l1, d, l3, n, f, its, t, 6, rfl, s20.bx, W20, tm, by omega, hn, by decide, fun qa st ut ss uss H21 k21 b21 nq nst hq hst hd um okw hlast hsteps lss => ?_⟩
        have nqP : qa ∉ [P, TT] := by
          simp only [List.mem_cons, List.not_mem_nil, or_false, not_or]
          exact ⟨(ne_of_none s20.hP nq).symm, (ne_of_none s20.hT nq).symm⟩
        have nsP : st ∉ [P, TT] := by
          simp only [List.mem_cons, List.not_mem_nil, or_false, not_or]
          exact ⟨(ne_of_none s20.hP nst).symm, (ne_of_none s20.hT nst).symm⟩
        have s21 := s20.draw k21 b21
        clear k21 b21 s20 W20 hR20 nq nst
        obtain ⟨W21, hR21, hS21, li21, hrows21⟩ := rest s21.k
        have gu := Z.SqT.of' (K := X.K) (W21.it ut um).1
        have wtl : ∀ v ∈ its, v.2.2.1.length ≤ 10000 := fun v mv => by have := (W16.it v mv).2.2.len; omega
        have hla : ∃ za, lkA (ksW ws) (dig n f (lastR ut.2.2.1 ss)) = some (za, lastR ut.2.2.1 ss) := by
          refine ⟨t.1, ?_⟩
          rw [hlast, lkA_ksW, ← e1, lkW_nd nd u mu, eu]; rfl
        have rl : ∀ x ∈ ut.2.2.1 :: ss.map (·.1), x.length ≤ 10000 := fun x mx => by
          rcases List.mem_cons.mp mx with e | mx
          · rw [e]; exact wtl ut um
          · obtain ⟨s, ms, rfl⟩ := List.mem_map.mp mx
            obtain ⟨v, mv, ev⟩ := hsteps s ms
            show s.1.length ≤ 10000
            rw [← ev]; exact wtl v mv
        have ppq : PpQ X.K [P, TT] H21 (.ref qa) (ut.2.2.1, ss) := ⟨qa, ut.1, st, uss, rfl, nqP, nsP, hq, gu, hst, hd⟩
        have gd : Gd81 n f ws (ut.2.2.1, ss) := ⟨okw, hla, rl, lss⟩
        obtain ⟨za, hla⟩ := hla
        clear W21 hR21 hS21 li21 hrows21 gu hq hst hd
        wtm_at "w"
        refine ite_nd (fun _ => ?_) (fun e => nomatch e)
        refine xb_cons ?_
        refine xs_expr ?_
        refine xe_append ?_
        wtm_at "w"
        refine ⟨_, _, rfl, s21.hP, ?_⟩
        wtm_at "w"
        refine ⟨s21.hP, szl (by omega), fun H22 k22 hP22 => ?_⟩
        -- the told list is behind by one
        have k1622 : Kp [b] H16 H22 := kp_shrink ((s21.k.wk (B := [b, P]) (fun l m => by rw [List.mem_singleton.mp m]; simp)).tr k22 (fun l m => .inl (by rw [List.mem_singleton.mp m]; simp))) (fun l m => by
          rcases List.mem_cons.mp m with z | z
          · exact .inl (by rw [z]; simp)
          · rw [List.mem_singleton.mp z]; exact .inr s21.fr.1)
        have bx22 := s21.bx.kp1 k22 ⟨Ne.symm s21.nP.1, Ne.symm s21.nP.2⟩
        have hT22 := k22.at1 (Ne.symm s21.nT.2.2) s21.hT
        have sfP : ∀ {v x}, PpQ X.K [P, TT] H21 v x → PpQ X.K [P, TT] H22 v x := fun {v x} h => h.safe s21.bx k22 (fun l m => .inr (.inl (by rw [List.mem_singleton.mp m]; simp)))
        have ppq22 := sfP ppq
        have it22 : ∀ (i : Nat) (v : V), us[i]? = some v → ∃ x y, PpQ X.K [P, TT] H22 v x ∧ vs[i]? = some y ∧ Dp X.K H22 y (trD (traceN n f (ksW ws) qs x.1 x.2)) ∧ Gd81 n f ws x := fun i v e => by
          obtain ⟨x, y, a1, a2, a3, a4⟩ := s21.it i v e
          exact ⟨x, y, sfP a1, a2, dp_kpT k22 (noL_trD _) a3, a4⟩
        have lnv := s21.ln
        have nP' := s21.nP
        have nT' := s21.nT
        have fr' := s21.fr
        clear k22 s21 ppq sfP
        obtain ⟨W22, hR22, hS22, li22, hrows22⟩ := rest k1622
        obtain ⟨pa, fr, sst, uss, epa, npa, nsst, hpa, hfr, hsst, hd⟩ := ppq22
        cases epa
        clear W22 hR22 hS22 hrows22
        dsimp only at hfr hd
        wtm_at "w"
        refine vc_listL (Z.SqL.of' hsst) (fun l2 H23 k23 nl2 hl2 => ?_)
        have hfr23 := k23.tup hfr
        have hd23 := dpAll_kp k23 hd
        have li23 := li22.kpN k23 (fun l m => nomatch m)
        have hid23 : Kp [] H22 H23 ∧ True := ⟨k23, trivial⟩
        clear k23 li22
        wtm_at "w"
        intro pz dp npz ndp nep
        refine ⟨pz, dp, l2, .ref fr, uss, rfl, upd_same, Z.SqL.of' ((Kp.made npz ndp nep).at0 hl2), fun s2 H24 k24 h24 ns2 hs2 => ⟨rfl, ?_⟩⟩
        have k2324 : Kp [] H23 H24 := (Kp.made npz ndp nep).tr1 k24 (.inr npz)
        have hpp : PpAt X.K T.C_Paper H24 pz ut.2.2.1 ss := ⟨dp, fr, s2, uss, h24, hs2, dpAll_kp k2324 hd23, k2324.tup hfr23⟩
        have li24 := li23.kpN k2324 (fun l m => nomatch m)
        have hid24 : Kp [] H22 H24 ∧ True := ⟨hid23.1.tr0 k2324, trivial⟩
        clear k24 k2324 li23 hfr23 hd23 hid23 h24 hs2 ns2 npz ndp nep hl2 nl2
        wtm_at "w"
        refine ⟨z, mi, dR, dE, dx, pz, za, n, f, ksW ws, qs, ut.2.2.1, ss, rfl, li24, hn, hpp, by omega, okw, hla, fun tv H25 k25 htv => ?_⟩
        have k2225 := hid24.1.tr0 k25
        clear k25 li24 hpp hid24
        refine ⟨k2225.at0 hT22, szl (by omega), fun H26 k26 hT26 => ?_⟩
        have k1625 := k1622.tr0 k2225
        have k1626 : Kp [b] H16 H26 := kp_shrink ((k1625.wk (B := [b, TT]) (fun l m => by rw [List.mem_singleton.mp m]; simp)).tr k26 (fun l m => .inl (by rw [List.mem_singleton.mp m]; simp))) (fun l m => by
          rcases List.mem_cons.mp m with z | z
          · exact .inl (by rw [z]; simp)
          · rw [List.mem_singleton.mp z]; exact .inr fr'.2)
        have bx25 := bx22.kp k2225
        have sfT : ∀ {v x}, PpQ X.K [P, TT] H22 v x → PpQ X.K [P, TT] H26 v x := fun {v x} h => (h.kp k2225).safe bx25 k26 (fun l m => .inr (.inl (by rw [List.mem_singleton.mp m]; simp)))
        have ppq26 := sfT (show PpQ X.K [P, TT] H22 (.ref qa) (ut.2.2.1, ss) from ⟨qa, fr, sst, uss, rfl, npa, nsst, hpa, hfr, hsst, hd⟩)
        have htv26 := dp_kpT k26 (noL_trD _) htv
        have s26 : S81 X.K H16 H26 b r P TT n f ws qs (us ++ [.ref qa]) (vs ++ [tv]) := by
          refine ⟨k1626, bx25.kp1 k26 ⟨Ne.symm nT'.1, Ne.symm nT'.2.1⟩, k26.at1 nT'.2.2 (k2225.at0 hP22), hT26, nP', nT', fr', by simp [lnv], fun i v e => ?_⟩
          by_cases hii : i < us.length
          · rw [List.getElem?_append_left hii] at e
            obtain ⟨x, y, a1, a2, a3, a4⟩ := it22 i v e
            exact ⟨x, y, sfT a1, by rw [List.getElem?_append_left (by omega)]; exact a2, dp_kpT k26 (noL_trD _) (dp_kp k2225 a3), a4⟩
          · have hl := (List.getElem?_eq_some_iff.mp e).1
            rw [List.length_append, List.length_singleton] at hl
            have ei : i = us.length := by omega
            subst ei
            rw [List.getElem?_append_right (Nat.le_refl _), Nat.sub_self] at e
            have ev : v = .ref qa := by simpa using e.symm
            subst ev
            exact ⟨_, tv, ppq26, by rw [lnv, List.getElem?_append_right (Nat.le_refl _), Nat.sub_self]; rfl, htv26, gd⟩
        clear k26 k1625 k1626 bx25 sfT it22 bx22 hT22 hP22 hpa hfr hsst hd htv k2225 k1622 hT26
        obtain ⟨W26, hR26, hS26, li26, hrows26⟩ := rest s26.k
        have m26 := W26.hm
        have hT26 := s26.hT
        obtain ⟨qa', fr, sst, uss, epa, _, _, hpa, hfr, hsst, hd⟩ := ppq26
        cases epa
        dsimp only at hfr hd
        clear W26 hR26 li26
        wtm_at "w"
        refine vx_lst (Z.SqL.of' hT26) (at_getLast (v := tv) (by simp)) ?_
        wtm_at "w"
        refine ⟨m, S, qa, fr, sst, tv, n, f, ws, ut.2.2.1, ss, uss, traceN n f (ksW ws) qs ut.2.2.1 ss, rfl, m26, hn, hS26, hrows26, hpa, hfr, Z.SqL.of' hsst, hd, by omega, rl, htv26, ?_, fun H27 k27 => ?_⟩
        · refine trw_of know okw gl ?_ rl (fun x mx => ?_)
          · rw [lastR_getD]
            exact ⟨_, hla⟩
          · obtain ⟨t', m', rfl⟩ := hws' x mx
            exact wtl t' m'
        · have s27 := s26.kp k27
          clear k27 s26 hT26 hS26 hrows26 hpa hfr hsst hd htv26 m26
          wtm_at "w"
          exact ⟨_, _, _, _, rfl, s27, by simp; omega⟩
      · wtm_at "w"
        refine ite_nd (fun e => absurd rfl e) (fun _ => ?_)
        wtm_at "w"
        exact ⟨_, _, _, _, rfl, s19, by omega⟩
    · rintro σ' H19 ⟨v10, v11, us, vs, rfl, s19, lus⟩
      have lus12 : us.length ≤ 12 := lus
      clear s18
      obtain ⟨W19, _, _, _, _⟩ := rest s19.k
      have h19 := W19.h1
      have hw19 := W19.hw
      have lb19 : LbW X.K T.C_Library T.C_Mixing H19 z dx mi dR dE n f its ws qs := ⟨lb16.L.draw b16 s19.k, lb16.q, lb16.ts, lb16.nd⟩
      wtm_at "w"
      refine vsl_lst (Z.SqL.of' h19) (fun l5 H20 k20 nl5 hl5 => ?_)
      rw [show (1 + (j : Int)) = ((1 + j : Nat) : Int) by omega] at hl5
      rw [cut_drop _ (1 + j) (by rw [List.length_map]; omega), ← List.map_drop] at hl5
      have s20 := s19.kp k20
      have lb20 := lb19.kp k20
      have W20 := W19.kp k20
      clear k20 s19 lb19 W19 h19 hw19
      wtm_at "w"
      refine ⟨z, w, m, l1, d, l3, l5, mi, dR, dE, dx, n, f, its, its.drop (1 + j), ws, qs, rfl, W20, hl5, fun t tm => List.mem_of_mem_drop tm, lb20, by omega, by rw [List.length_drop]; omega, by rw [List.length_nil] at lq; omega, hn, fun qs' H21 k21 lb21 lq' => ?_⟩
      have hA : ∀ l ∈ [dR, dE], ∃ kvs, H20 l = some (.dK kvs) := by
        intro l m
        simp only [List.mem_cons, List.not_mem_nil, or_false] at m
        rcases m with rfl | rfl
        · exact ⟨_, lb20.L.hR⟩
        · exact ⟨_, lb20.L.hE⟩
      have hP21 := dks_lst k21 hA s20.hP
      have hT21 := dks_lst k21 hA s20.hT
      have it21 : ∀ (i : Nat) (v : V), us[i]? = some v → ∃ x y, PpQ X.K [P, TT] H21 v x ∧ vs[i]? = some y ∧ Dp X.K H21 y (trD (traceN n f (ksW ws) qs x.1 x.2)) ∧ Gd81 n f ws x := fun i v e => by
        obtain ⟨x, y, a1, a2, a3, a4⟩ := s20.it i v e
        exact ⟨x, y, a1.safe s20.bx k21 (fun l m => .inr (.inr (.inr (hA l m)))), a2, dp_kpT k21 (noL_trD _) a3, a4⟩
      have ln := s20.ln
      have W21 := W20.dks k21 hA
      have know' := lb21.know W21
      have li21 := lb21.L.rd know'
      have grow1 : ∀ x zz, lkA (ksW ws) x = some zz → lkA (ksW ((its.drop (1 + j)).foldl (putW n f) ws)) x = some zz := fun x zz e => by
        rw [lkA_ksW] at e ⊢
        cases hu : lkW ws x with
        | none => rw [hu] at e; cases e
        | some u => rw [hu] at e; rw [lkW_putsW hu]; exact e
      have grow2 : ∀ x zz, lkA (ksW ws) x = some zz → esOf qs' x = esOf qs x := fun x zz e => by
        rw [lkA_ksW] at e
        cases hu : lkW ws x with
        | none => rw [hu] at e; cases e
        | some u =>
          have m1 := lkW_mem hu
          have m2 := lkW_mem (lkW_putsW (n := n) (f := f) (ts := its.drop (1 + j)) hu)
          have a := lb16.q u m1.1
          have b := lb21.q u m2.1
          rw [m1.2] at a b
          unfold esOf
          by_cases h4 : u.2.2.2.1.getD 0 0 = 4
          · obtain ⟨_, z1⟩ := a.1 h4
            obtain ⟨_, z2⟩ := b.1 h4
            rw [z1, z2]
          · rw [a.2 h4, b.2 h4]
      generalize (its.drop (1 + j)).foldl (putW n f) ws = ws' at lb21 know' li21 grow1
      clear k21 hA s20 lb20 W20 W21 hl5 lb21
      wtm_at "w"
      refine xs_forR1 C (by wtm_at "m") T.b_range ?_
      wtm_at "w"
      refine ⟨_, rfl, by omega, by omega, fun i σ H' => ∃ (v10 v11 v12 : Option V), σ = [some (.ref a), some (.ref b), some (.ref w), some (.ref m), some (.int (1 + (j : Int))), some (.ref S), some (.ref z), some (.ref R), some (.ref P), some (.ref TT), v10, v11, v12, none] ∧ Kp [] H21 H', ⟨_, _, _, rfl, Kp.refl _ _⟩, ?_, ?_⟩
      · rintro i σ' H22 hi ⟨v10, v11, v12, rfl, k22⟩
        have hi' : i < us.length := by omega
        obtain ⟨x, y, a1, a2, a3, a4⟩ := it21 i us[i] (List.getElem?_eq_getElem hi')
        have hui : us[i]? = some us[i] := List.getElem?_eq_getElem hi'
        obtain ⟨pa, fr, st, pvs, epa, _, _, hpa, hfr, hst, hd⟩ := a1
        rw [epa] at hui
        obtain ⟨first, ss⟩ := x
        obtain ⟨okw, ⟨za, hla⟩, rl, lss⟩ := a4
        dsimp only at hfr hd okw hla rl lss a3
        have hP22 := k22.at0 hP21
        have hT22 := k22.at0 hT21
        have hpa22 := k22.at0 hpa
        have hfr22 := k22.tup hfr
        have hst22 := k22.at0 hst
        have hd22 := dpAll_kp k22 hd
        have a32 := dp_kp k22 a3
        have hid22 : Kp [] H21 H22 ∧ True := ⟨k22, trivial⟩
        clear k22 hpa hfr hst hd a3
        refine xg_name C (by wtm_at "m") (by wtm_at "m") ?_
        refine ⟨_, by wtm_at "u", ?_⟩
        wtm_at "w"
        refine vx_lst (Z.SqL.of' hT22) (at_nat a2) ?_
        wtm_at "w"
        refine xe_str ?_
        wtm_at "w"
        intro t1 H23 k23 ht1 _
        have hP23 := k23.at0 hP22
        have hpa23 := k23.at0 hpa22
        have hfr23 := k23.tup hfr22
        have hst23 := k23.at0 hst22
        have hd23 := dpAll_kp k23 hd22
        have a33 := dp_kp k23 a32
        have hid23 : Kp [] H21 H23 ∧ True := ⟨hid22.1.tr0 k23, trivial⟩
        clear k23 hP22 hT22 hpa22 hfr22 hst22 hd22 a32 hid22
        refine vo_eqD C a33 (.tup ht1 (.cons (.str _) .nil)) (sh_tr _) (sh_tr .known) ?_
        rw [eqv_kn]
        refine ex_bl ?_
        cases htr : traceN n f (ksW ws) qs first ss with
        | unknown i => refine L2.iteF ?_; wtm_at "w"; exact ⟨_, _, _, rfl, hid23.1⟩
        | clash a b => refine L2.iteF ?_; wtm_at "w"; exact ⟨_, _, _, rfl, hid23.1⟩
        | known =>
          refine L2.iteT ?_
          wtm_at "w"
          refine vx_lst (Z.SqL.of' hP23) (at_nat hui) ?_
          wtm_at "w"
          refine vx_lst (Z.SqL.of' hP23) (at_nat hui) ?_
          wtm_at "w"
          refine vc_listL (Z.SqL.of' hst23) (fun l2 H24 k24 nl2 hl2 => ?_)
          have hfr24 := k24.tup hfr23
          have hd24 := dpAll_kp k24 hd23
          have hid24 : Kp [] H21 H24 ∧ True := ⟨hid23.1.tr0 k24, trivial⟩
          clear k24 hP23 hpa23 hfr23 hst23 hd23 a33 hid23
          wtm_at "w"
          intro pz dp npz ndp nep
          refine ⟨pz, dp, l2, .ref fr, pvs, rfl, upd_same, Z.SqL.of' ((Kp.made npz ndp nep).at0 hl2), fun s2 H25 k25 h25 ns2 hs2 => ⟨rfl, ?_⟩⟩
          have k2425 : Kp [] H24 H25 := (Kp.made npz ndp nep).tr1 k25 (.inr npz)
          have hpp : PpAt X.K T.C_Paper H25 pz first ss := ⟨dp, fr, s2, pvs, h25, hs2, dpAll_kp k2425 hd24, k2425.tup hfr24⟩
          have hid25 : Kp [] H21 H25 ∧ True := ⟨hid24.1.tr0 k2425, trivial⟩
          have li25 := li21.kpN hid25.1 (fun l m => nomatch m)
          clear k25 k2425 hfr24 hd24 hid24 h25 hs2 ns2 npz ndp nep hl2 nl2
          have hkn := traceAt_grow (qs' := qs') know grow1 grow2 okw ss.length (Nat.le_refl _) (by rw [lastR_getD]; exact ⟨_, hla⟩) htr
          wtm_at "w"
          refine ⟨z, mi, dR, dE, dx, pz, za, n, f, ksW ws', qs', first, ss, rfl, li25, hn, hpp, by omega, okw, grow1 _ _ hla, fun tv H26 k26 htv => ?_⟩
          rw [show traceN n f (ksW ws') qs' first ss = .known from hkn] at htv
          have kk := hid25.1.tr0 k26
          wtm_at "w"
          refine xe_str ?_
          wtm_at "w"
          intro t2 H27 k27 ht2 _
          refine vo_neD C (dp_kp k27 htv) (.tup ht2 (.cons (.str _) .nil)) (sh_tr .known) (sh_tr .known) ?_
          rw [eqv_kn]
          refine ex_bl ?_
          refine L2.iteF ?_
          wtm_at "w"
          exact ⟨_, _, _, rfl, kk.tr0 k27⟩
      · rintro σ' H22 ⟨v10, v11, v12, rfl, _⟩
        wtm_at "w"
        exact q _
end
/-! the end -/
theorem all_mk {l : PySem.W.OpenLaw} {w : World} {K : PySem.W.Frag} {h : Heap} {mg : Str → Option Value} {fa f_digest f__mixed f_digest_of f_is_thing f__is_document f__is_head f_kind_of f__back_count f__greatest_step f__first_count f_root_of f__root_and_nodes f_way_of f_turns f__nodes_up f_clash_of_ways f_clash_of_entries f__first_difference f_listed f_rows_of f_trace f__clash_at f__clash_in_tree f__are_entries f__law_cell f__law_row f__law_draw f__law_digest f__law_number f__law_mixing f__law_backs f__law_half f__law_root f__law_way f__law_new_head f__law_new_thing f__law_places f__law_fits_back f__law_ahead f__law_walk f__law_small f__law_made_world f__law_closed f__law_trace_ok f__law_put_all f_law f_Mixing___init__ f_Paper___init__ f_Library___init__ f_Library_put f_Library_row_of f_Library_entries_of f_Library_rows f_Library_gaps f_Library_is_closed f_Library__held_by f_ThingError___init__ C_Mixing C_Paper C_Library E_SealError E_ThingError : Addr} (X : K.In h) (G : h.Ns mainGlobals mg) (hfa : mg "law" = some (.ref fa))
    {nm_ThingError q_ThingError : Str} {N_ThingError : Addr} {bs_ThingError : List Value} {sn_ThingError : List Str} {sub_ThingError : List Value} {ab_ThingError : Bool} {col_ThingError : Option Bool} {dd_ThingError : Option Addr} {m0_ThingError m1_ThingError m2_ThingError m3_ThingError m5_ThingError : Option Value}
    {od_digest an_digest od__mixed an__mixed od_digest_of an_digest_of od_is_thing an_is_thing od__is_document an__is_document od__is_head an__is_head od_kind_of an_kind_of od__back_count an__back_count od__greatest_step an__greatest_step od__first_count an__first_count od_root_of an_root_of od__root_and_nodes an__root_and_nodes od_way_of an_way_of od_turns an_turns od__nodes_up an__nodes_up od_clash_of_ways an_clash_of_ways od_clash_of_entries an_clash_of_entries od__first_difference an__first_difference od_listed an_listed od_rows_of an_rows_of od_trace an_trace od__clash_at an__clash_at od__clash_in_tree an__clash_in_tree od__are_entries an__are_entries od__law_cell an__law_cell od__law_row an__law_row od__law_draw an__law_draw od__law_digest an__law_digest od__law_number an__law_number od__law_mixing an__law_mixing od__law_backs an__law_backs od__law_half an__law_half od__law_root an__law_root od__law_way an__law_way od__law_new_head an__law_new_head od__law_new_thing an__law_new_thing od__law_places an__law_places od__law_fits_back an__law_fits_back od__law_ahead an__law_ahead od__law_walk an__law_walk od__law_small an__law_small od__law_made_world an__law_made_world od__law_closed an__law_closed od__law_trace_ok an__law_trace_ok od__law_put_all an__law_put_all od_law an_law od_Mixing___init__ an_Mixing___init__ od_Paper___init__ an_Paper___init__ od_Library___init__ an_Library___init__ od_Library_put an_Library_put od_Library_row_of an_Library_row_of od_Library_entries_of an_Library_entries_of od_Library_rows an_Library_rows od_Library_gaps an_Library_gaps od_Library_is_closed an_Library_is_closed od_Library__held_by an_Library__held_by od_ThingError___init__ an_ThingError___init__ : Option Addr} {sl_digest sl__mixed sl_digest_of sl_is_thing sl__is_document sl__is_head sl_kind_of sl__back_count sl__greatest_step sl__first_count sl_root_of sl__root_and_nodes sl_way_of sl_turns sl__nodes_up sl_clash_of_ways sl_clash_of_entries sl__first_difference sl_listed sl_rows_of sl_trace sl__clash_at sl__clash_in_tree sl__are_entries sl__law_cell sl__law_row sl__law_draw sl__law_digest sl__law_number sl__law_mixing sl__law_backs sl__law_half sl__law_root sl__law_way sl__law_new_head sl__law_new_thing sl__law_places sl__law_fits_back sl__law_ahead sl__law_walk sl__law_small sl__law_made_world sl__law_closed sl__law_trace_ok sl__law_put_all sl_law sl_Mixing___init__ sl_Paper___init__ sl_Library___init__ sl_Library_put sl_Library_row_of sl_Library_entries_of sl_Library_rows sl_Library_gaps sl_Library_is_closed sl_Library__held_by sl_ThingError___init__ : Array (Option Value)} {oc_digest kV_digest dc_digest pm_digest cd_digest ct_digest oc__mixed kV__mixed dc__mixed pm__mixed cd__mixed ct__mixed oc_digest_of kV_digest_of dc_digest_of pm_digest_of cd_digest_of ct_digest_of oc_is_thing kV_is_thing dc_is_thing pm_is_thing cd_is_thing ct_is_thing oc__is_document kV__is_document dc__is_document pm__is_document cd__is_document ct__is_document oc__is_head kV__is_head dc__is_head pm__is_head cd__is_head ct__is_head oc_kind_of kV_kind_of dc_kind_of pm_kind_of cd_kind_of ct_kind_of oc__back_count kV__back_count dc__back_count pm__back_count cd__back_count ct__back_count oc__greatest_step kV__greatest_step dc__greatest_step pm__greatest_step cd__greatest_step ct__greatest_step oc__first_count kV__first_count dc__first_count pm__first_count cd__first_count ct__first_count oc_root_of kV_root_of dc_root_of pm_root_of cd_root_of ct_root_of oc__root_and_nodes kV__root_and_nodes dc__root_and_nodes pm__root_and_nodes cd__root_and_nodes ct__root_and_nodes oc_way_of kV_way_of dc_way_of pm_way_of cd_way_of ct_way_of oc_turns kV_turns dc_turns pm_turns cd_turns ct_turns oc__nodes_up kV__nodes_up dc__nodes_up pm__nodes_up cd__nodes_up ct__nodes_up oc_clash_of_ways kV_clash_of_ways dc_clash_of_ways pm_clash_of_ways cd_clash_of_ways ct_clash_of_ways oc_clash_of_entries kV_clash_of_entries dc_clash_of_entries pm_clash_of_entries cd_clash_of_entries ct_clash_of_entries oc__first_difference kV__first_difference dc__first_difference pm__first_difference cd__first_difference ct__first_difference oc_listed kV_listed dc_listed pm_listed cd_listed ct_listed oc_rows_of kV_rows_of dc_rows_of pm_rows_of cd_rows_of ct_rows_of oc_trace kV_trace dc_trace pm_trace cd_trace ct_trace oc__clash_at kV__clash_at dc__clash_at pm__clash_at cd__clash_at ct__clash_at oc__clash_in_tree kV__clash_in_tree dc__clash_in_tree pm__clash_in_tree cd__clash_in_tree ct__clash_in_tree oc__are_entries kV__are_entries dc__are_entries pm__are_entries cd__are_entries ct__are_entries oc__law_cell kV__law_cell dc__law_cell pm__law_cell cd__law_cell ct__law_cell oc__law_row kV__law_row dc__law_row pm__law_row cd__law_row ct__law_row oc__law_draw kV__law_draw dc__law_draw pm__law_draw cd__law_draw ct__law_draw oc__law_digest kV__law_digest dc__law_digest pm__law_digest cd__law_digest ct__law_digest oc__law_number kV__law_number dc__law_number pm__law_number cd__law_number ct__law_number oc__law_mixing kV__law_mixing dc__law_mixing pm__law_mixing cd__law_mixing ct__law_mixing oc__law_backs kV__law_backs dc__law_backs pm__law_backs cd__law_backs ct__law_backs oc__law_half kV__law_half dc__law_half pm__law_half cd__law_half ct__law_half oc__law_root kV__law_root dc__law_root pm__law_root cd__law_root ct__law_root oc__law_way kV__law_way dc__law_way pm__law_way cd__law_way ct__law_way oc__law_new_head kV__law_new_head dc__law_new_head pm__law_new_head cd__law_new_head ct__law_new_head oc__law_new_thing kV__law_new_thing dc__law_new_thing pm__law_new_thing cd__law_new_thing ct__law_new_thing oc__law_places kV__law_places dc__law_places pm__law_places cd__law_places ct__law_places oc__law_fits_back kV__law_fits_back dc__law_fits_back pm__law_fits_back cd__law_fits_back ct__law_fits_back oc__law_ahead kV__law_ahead dc__law_ahead pm__law_ahead cd__law_ahead ct__law_ahead oc__law_walk kV__law_walk dc__law_walk pm__law_walk cd__law_walk ct__law_walk oc__law_small kV__law_small dc__law_small pm__law_small cd__law_small ct__law_small oc__law_made_world kV__law_made_world dc__law_made_world pm__law_made_world cd__law_made_world ct__law_made_world oc__law_closed kV__law_closed dc__law_closed pm__law_closed cd__law_closed ct__law_closed oc__law_trace_ok kV__law_trace_ok dc__law_trace_ok pm__law_trace_ok cd__law_trace_ok ct__law_trace_ok oc__law_put_all kV__law_put_all dc__law_put_all pm__law_put_all cd__law_put_all ct__law_put_all oc_law kV_law dc_law pm_law cd_law ct_law oc_Mixing___init__ kV_Mixing___init__ dc_Mixing___init__ pm_Mixing___init__ cd_Mixing___init__ ct_Mixing___init__ oc_Paper___init__ kV_Paper___init__ dc_Paper___init__ pm_Paper___init__ cd_Paper___init__ ct_Paper___init__ oc_Library___init__ kV_Library___init__ dc_Library___init__ pm_Library___init__ cd_Library___init__ ct_Library___init__ oc_Library_put kV_Library_put dc_Library_put pm_Library_put cd_Library_put ct_Library_put oc_Library_row_of kV_Library_row_of dc_Library_row_of pm_Library_row_of cd_Library_row_of ct_Library_row_of oc_Library_entries_of kV_Library_entries_of dc_Library_entries_of pm_Library_entries_of cd_Library_entries_of ct_Library_entries_of oc_Library_rows kV_Library_rows dc_Library_rows pm_Library_rows cd_Library_rows ct_Library_rows oc_Library_gaps kV_Library_gaps dc_Library_gaps pm_Library_gaps cd_Library_gaps ct_Library_gaps oc_Library_is_closed kV_Library_is_closed dc_Library_is_closed pm_Library_is_closed cd_Library_is_closed ct_Library_is_closed oc_Library__held_by kV_Library__held_by dc_Library__held_by pm_Library__held_by cd_Library__held_by ct_Library__held_by oc_ThingError___init__ kV_ThingError___init__ dc_ThingError___init__ pm_ThingError___init__ cd_ThingError___init__ ct_ThingError___init__ : Value}
    {t_PRIME t_BEACON t_DOCUMENT t_HEAD t_RENEWAL t_NODE t_CITE t_BACK t_ENTRY : Tok}
    (aE_SealError : PySem.W.nsIn K mainGlobals "SealError" = some (some (.ref E_SealError)))
    (aE_ThingError : PySem.W.nsIn K mainGlobals "ThingError" = some (some (.ref E_ThingError)))
    (eX_SealError : PySem.W.subIn K (.ref E_SealError) (.type "BaseException") = some true)
    (eH_SealError : PySem.W.hasDictIn K E_SealError = true)
    (eT_SealError : PySem.W.typeIn K (.ref E_SealError) = some (.type "type"))
    (eX_ThingError : PySem.W.subIn K (.ref E_ThingError) (.type "BaseException") = some true)
    (eH_ThingError : PySem.W.hasDictIn K E_ThingError = true)
    (eT_ThingError : PySem.W.typeIn K (.ref E_ThingError) = some (.type "type"))
    (eN_ThingError_reason : PySem.W.findIn K (.ref E_ThingError) "reason" = some none)
    (eL_ThingError : K.lookup E_ThingError = some (excClassObj nm_ThingError q_ThingError E_ThingError N_ThingError bs_ThingError [.ref E_SealError, .type "ValueError", .type "Exception", .type "BaseException", .type "object"] true sn_ThingError sub_ThingError ab_ThingError col_ThingError dd_ThingError m0_ThingError m1_ThingError m2_ThingError m3_ThingError m5_ThingError "ValueError.__new__"))
    (eS_ThingError : PySem.W.findIn K (.ref E_ThingError) "__setattr__" = some (some (.builtin "object.__setattr__")))
    (eK_ThingError : PySem.W.keepIn K (.ref E_ThingError) = true)
    (eG_ThingError : PySem.W.findIn K (.ref E_ThingError) "__getattribute__" = some (some (.builtin "BaseException.__getattribute__")))
    (eA_ThingError : PySem.W.findIn K (.ref E_ThingError) "__getattr__" = some none)
    (eC_ThingError : PySem.W.findIn K (.ref E_ThingError) "__class__" = some (some (.builtin "object.__class__")))
    (eM_ThingError : PySem.W.mroIn K E_ThingError (.type "object") = some true)
    (eU_ThingError_ThingError : PySem.W.subIn K (.ref E_ThingError) (.ref E_ThingError) = some true)
    (eU_ThingError_SealError : PySem.W.subIn K (.ref E_ThingError) (.ref E_SealError) = some true)
    (eget : PySem.W.specialIn K (.builtin "object.__class__") "__get__" = some (some (.builtin "getset_descriptor.__get__")))
    (etk : PySem.W.takesIn K (.builtin "object.__class__") = some true)
    (aC_Mixing : PySem.W.nsIn K mainGlobals "Mixing" = some (some (.ref C_Mixing)))
    (aC_Paper : PySem.W.nsIn K mainGlobals "Paper" = some (some (.ref C_Paper)))
    (aC_Library : PySem.W.nsIn K mainGlobals "Library" = some (some (.ref C_Library)))
    (a_digest : PySem.W.nsIn K mainGlobals "digest" = some (some (.ref f_digest)))
    (l_digest : K.lookup f_digest = some ⟨oc_digest, od_digest, .func (PySem.W.fnOf "digest" "digest" (defArgs s_digest) (defBody s_digest) (defScope s_digest) .none kV_digest dc_digest pm_digest an_digest cd_digest ct_digest), sl_digest⟩)
    (c_digest : PySem.W.codeIn K cd_digest "digest" = true)
    (k_digest : PySem.W.keepIn K (.ref f_digest) = true)
    (a__mixed : PySem.W.nsIn K mainGlobals "_mixed" = some (some (.ref f__mixed)))
    (l__mixed : K.lookup f__mixed = some ⟨oc__mixed, od__mixed, .func (PySem.W.fnOf "_mixed" "_mixed" (defArgs s__mixed) (defBody s__mixed) (defScope s__mixed) .none kV__mixed dc__mixed pm__mixed an__mixed cd__mixed ct__mixed), sl__mixed⟩)
    (c__mixed : PySem.W.codeIn K cd__mixed "_mixed" = true)
    (k__mixed : PySem.W.keepIn K (.ref f__mixed) = true)
    (a_digest_of : PySem.W.nsIn K mainGlobals "digest_of" = some (some (.ref f_digest_of)))
    (l_digest_of : K.lookup f_digest_of = some ⟨oc_digest_of, od_digest_of, .func (PySem.W.fnOf "digest_of" "digest_of" (defArgs s_digest_of) (defBody s_digest_of) (defScope s_digest_of) .none kV_digest_of dc_digest_of pm_digest_of an_digest_of cd_digest_of ct_digest_of), sl_digest_of⟩)
    (c_digest_of : PySem.W.codeIn K cd_digest_of "digest_of" = true)
    (k_digest_of : PySem.W.keepIn K (.ref f_digest_of) = true)
    (a_is_thing : PySem.W.nsIn K mainGlobals "is_thing" = some (some (.ref f_is_thing)))
    (l_is_thing : K.lookup f_is_thing = some ⟨oc_is_thing, od_is_thing, .func (PySem.W.fnOf "is_thing" "is_thing" (defArgs s_is_thing) (defBody s_is_thing) (defScope s_is_thing) .none kV_is_thing dc_is_thing pm_is_thing an_is_thing cd_is_thing ct_is_thing), sl_is_thing⟩)
    (c_is_thing : PySem.W.codeIn K cd_is_thing "is_thing" = true)
    (k_is_thing : PySem.W.keepIn K (.ref f_is_thing) = true)
    (a__is_document : PySem.W.nsIn K mainGlobals "_is_document" = some (some (.ref f__is_document)))
    (l__is_document : K.lookup f__is_document = some ⟨oc__is_document, od__is_document, .func (PySem.W.fnOf "_is_document" "_is_document" (defArgs s__is_document) (defBody s__is_document) (defScope s__is_document) .none kV__is_document dc__is_document pm__is_document an__is_document cd__is_document ct__is_document), sl__is_document⟩)
    (c__is_document : PySem.W.codeIn K cd__is_document "_is_document" = true)
    (k__is_document : PySem.W.keepIn K (.ref f__is_document) = true)
    (a__is_head : PySem.W.nsIn K mainGlobals "_is_head" = some (some (.ref f__is_head)))
    (l__is_head : K.lookup f__is_head = some ⟨oc__is_head, od__is_head, .func (PySem.W.fnOf "_is_head" "_is_head" (defArgs s__is_head) (defBody s__is_head) (defScope s__is_head) .none kV__is_head dc__is_head pm__is_head an__is_head cd__is_head ct__is_head), sl__is_head⟩)
    (c__is_head : PySem.W.codeIn K cd__is_head "_is_head" = true)
    (k__is_head : PySem.W.keepIn K (.ref f__is_head) = true)
    (a_kind_of : PySem.W.nsIn K mainGlobals "kind_of" = some (some (.ref f_kind_of)))
    (l_kind_of : K.lookup f_kind_of = some ⟨oc_kind_of, od_kind_of, .func (PySem.W.fnOf "kind_of" "kind_of" (defArgs s_kind_of) (defBody s_kind_of) (defScope s_kind_of) .none kV_kind_of dc_kind_of pm_kind_of an_kind_of cd_kind_of ct_kind_of), sl_kind_of⟩)
    (c_kind_of : PySem.W.codeIn K cd_kind_of "kind_of" = true)
    (k_kind_of : PySem.W.keepIn K (.ref f_kind_of) = true)
    (a__back_count : PySem.W.nsIn K mainGlobals "_back_count" = some (some (.ref f__back_count)))
    (l__back_count : K.lookup f__back_count = some ⟨oc__back_count, od__back_count, .func (PySem.W.fnOf "_back_count" "_back_count" (defArgs s__back_count) (defBody s__back_count) (defScope s__back_count) .none kV__back_count dc__back_count pm__back_count an__back_count cd__back_count ct__back_count), sl__back_count⟩)
    (c__back_count : PySem.W.codeIn K cd__back_count "_back_count" = true)
    (k__back_count : PySem.W.keepIn K (.ref f__back_count) = true)
    (a__greatest_step : PySem.W.nsIn K mainGlobals "_greatest_step" = some (some (.ref f__greatest_step)))
    (l__greatest_step : K.lookup f__greatest_step = some ⟨oc__greatest_step, od__greatest_step, .func (PySem.W.fnOf "_greatest_step" "_greatest_step" (defArgs s__greatest_step) (defBody s__greatest_step) (defScope s__greatest_step) .none kV__greatest_step dc__greatest_step pm__greatest_step an__greatest_step cd__greatest_step ct__greatest_step), sl__greatest_step⟩)
    (c__greatest_step : PySem.W.codeIn K cd__greatest_step "_greatest_step" = true)
    (k__greatest_step : PySem.W.keepIn K (.ref f__greatest_step) = true)
    (a__first_count : PySem.W.nsIn K mainGlobals "_first_count" = some (some (.ref f__first_count)))
    (l__first_count : K.lookup f__first_count = some ⟨oc__first_count, od__first_count, .func (PySem.W.fnOf "_first_count" "_first_count" (defArgs s__first_count) (defBody s__first_count) (defScope s__first_count) .none kV__first_count dc__first_count pm__first_count an__first_count cd__first_count ct__first_count), sl__first_count⟩)
    (c__first_count : PySem.W.codeIn K cd__first_count "_first_count" = true)
    (k__first_count : PySem.W.keepIn K (.ref f__first_count) = true)
    (a_root_of : PySem.W.nsIn K mainGlobals "root_of" = some (some (.ref f_root_of)))
    (l_root_of : K.lookup f_root_of = some ⟨oc_root_of, od_root_of, .func (PySem.W.fnOf "root_of" "root_of" (defArgs s_root_of) (defBody s_root_of) (defScope s_root_of) .none kV_root_of dc_root_of pm_root_of an_root_of cd_root_of ct_root_of), sl_root_of⟩)
    (c_root_of : PySem.W.codeIn K cd_root_of "root_of" = true)
    (k_root_of : PySem.W.keepIn K (.ref f_root_of) = true)
    (a__root_and_nodes : PySem.W.nsIn K mainGlobals "_root_and_nodes" = some (some (.ref f__root_and_nodes)))
    (l__root_and_nodes : K.lookup f__root_and_nodes = some ⟨oc__root_and_nodes, od__root_and_nodes, .func (PySem.W.fnOf "_root_and_nodes" "_root_and_nodes" (defArgs s__root_and_nodes) (defBody s__root_and_nodes) (defScope s__root_and_nodes) .none kV__root_and_nodes dc__root_and_nodes pm__root_and_nodes an__root_and_nodes cd__root_and_nodes ct__root_and_nodes), sl__root_and_nodes⟩)
    (c__root_and_nodes : PySem.W.codeIn K cd__root_and_nodes "_root_and_nodes" = true)
    (k__root_and_nodes : PySem.W.keepIn K (.ref f__root_and_nodes) = true)
    (a_way_of : PySem.W.nsIn K mainGlobals "way_of" = some (some (.ref f_way_of)))
    (l_way_of : K.lookup f_way_of = some ⟨oc_way_of, od_way_of, .func (PySem.W.fnOf "way_of" "way_of" (defArgs s_way_of) (defBody s_way_of) (defScope s_way_of) .none kV_way_of dc_way_of pm_way_of an_way_of cd_way_of ct_way_of), sl_way_of⟩)
    (c_way_of : PySem.W.codeIn K cd_way_of "way_of" = true)
    (k_way_of : PySem.W.keepIn K (.ref f_way_of) = true)
    (a_turns : PySem.W.nsIn K mainGlobals "turns" = some (some (.ref f_turns)))
    (l_turns : K.lookup f_turns = some ⟨oc_turns, od_turns, .func (PySem.W.fnOf "turns" "turns" (defArgs s_turns) (defBody s_turns) (defScope s_turns) .none kV_turns dc_turns pm_turns an_turns cd_turns ct_turns), sl_turns⟩)
    (c_turns : PySem.W.codeIn K cd_turns "turns" = true)
    (k_turns : PySem.W.keepIn K (.ref f_turns) = true)
    (a__nodes_up : PySem.W.nsIn K mainGlobals "_nodes_up" = some (some (.ref f__nodes_up)))
    (l__nodes_up : K.lookup f__nodes_up = some ⟨oc__nodes_up, od__nodes_up, .func (PySem.W.fnOf "_nodes_up" "_nodes_up" (defArgs s__nodes_up) (defBody s__nodes_up) (defScope s__nodes_up) .none kV__nodes_up dc__nodes_up pm__nodes_up an__nodes_up cd__nodes_up ct__nodes_up), sl__nodes_up⟩)
    (c__nodes_up : PySem.W.codeIn K cd__nodes_up "_nodes_up" = true)
    (k__nodes_up : PySem.W.keepIn K (.ref f__nodes_up) = true)
    (a_clash_of_ways : PySem.W.nsIn K mainGlobals "clash_of_ways" = some (some (.ref f_clash_of_ways)))
    (l_clash_of_ways : K.lookup f_clash_of_ways = some ⟨oc_clash_of_ways, od_clash_of_ways, .func (PySem.W.fnOf "clash_of_ways" "clash_of_ways" (defArgs s_clash_of_ways) (defBody s_clash_of_ways) (defScope s_clash_of_ways) .none kV_clash_of_ways dc_clash_of_ways pm_clash_of_ways an_clash_of_ways cd_clash_of_ways ct_clash_of_ways), sl_clash_of_ways⟩)
    (c_clash_of_ways : PySem.W.codeIn K cd_clash_of_ways "clash_of_ways" = true)
    (k_clash_of_ways : PySem.W.keepIn K (.ref f_clash_of_ways) = true)
    (a_clash_of_entries : PySem.W.nsIn K mainGlobals "clash_of_entries" = some (some (.ref f_clash_of_entries)))
    (l_clash_of_entries : K.lookup f_clash_of_entries = some ⟨oc_clash_of_entries, od_clash_of_entries, .func (PySem.W.fnOf "clash_of_entries" "clash_of_entries" (defArgs s_clash_of_entries) (defBody s_clash_of_entries) (defScope s_clash_of_entries) .none kV_clash_of_entries dc_clash_of_entries pm_clash_of_entries an_clash_of_entries cd_clash_of_entries ct_clash_of_entries), sl_clash_of_entries⟩)
    (c_clash_of_entries : PySem.W.codeIn K cd_clash_of_entries "clash_of_entries" = true)
    (k_clash_of_entries : PySem.W.keepIn K (.ref f_clash_of_entries) = true)
    (a__first_difference : PySem.W.nsIn K mainGlobals "_first_difference" = some (some (.ref f__first_difference)))
    (l__first_difference : K.lookup f__first_difference = some ⟨oc__first_difference, od__first_difference, .func (PySem.W.fnOf "_first_difference" "_first_difference" (defArgs s__first_difference) (defBody s__first_difference) (defScope s__first_difference) .none kV__first_difference dc__first_difference pm__first_difference an__first_difference cd__first_difference ct__first_difference), sl__first_difference⟩)
    (c__first_difference : PySem.W.codeIn K cd__first_difference "_first_difference" = true)
    (k__first_difference : PySem.W.keepIn K (.ref f__first_difference) = true)
    (a_listed : PySem.W.nsIn K mainGlobals "listed" = some (some (.ref f_listed)))
    (l_listed : K.lookup f_listed = some ⟨oc_listed, od_listed, .func (PySem.W.fnOf "listed" "listed" (defArgs s_listed) (defBody s_listed) (defScope s_listed) .none kV_listed dc_listed pm_listed an_listed cd_listed ct_listed), sl_listed⟩)
    (c_listed : PySem.W.codeIn K cd_listed "listed" = true)
    (k_listed : PySem.W.keepIn K (.ref f_listed) = true)
    (a_rows_of : PySem.W.nsIn K mainGlobals "rows_of" = some (some (.ref f_rows_of)))
    (l_rows_of : K.lookup f_rows_of = some ⟨oc_rows_of, od_rows_of, .func (PySem.W.fnOf "rows_of" "rows_of" (defArgs s_rows_of) (defBody s_rows_of) (defScope s_rows_of) .none kV_rows_of dc_rows_of pm_rows_of an_rows_of cd_rows_of ct_rows_of), sl_rows_of⟩)
    (c_rows_of : PySem.W.codeIn K cd_rows_of "rows_of" = true)
    (k_rows_of : PySem.W.keepIn K (.ref f_rows_of) = true)
    (a_trace : PySem.W.nsIn K mainGlobals "trace" = some (some (.ref f_trace)))
    (l_trace : K.lookup f_trace = some ⟨oc_trace, od_trace, .func (PySem.W.fnOf "trace" "trace" (defArgs s_trace) (defBody s_trace) (defScope s_trace) .none kV_trace dc_trace pm_trace an_trace cd_trace ct_trace), sl_trace⟩)
    (c_trace : PySem.W.codeIn K cd_trace "trace" = true)
    (k_trace : PySem.W.keepIn K (.ref f_trace) = true)
    (a__clash_at : PySem.W.nsIn K mainGlobals "_clash_at" = some (some (.ref f__clash_at)))
    (l__clash_at : K.lookup f__clash_at = some ⟨oc__clash_at, od__clash_at, .func (PySem.W.fnOf "_clash_at" "_clash_at" (defArgs s__clash_at) (defBody s__clash_at) (defScope s__clash_at) .none kV__clash_at dc__clash_at pm__clash_at an__clash_at cd__clash_at ct__clash_at), sl__clash_at⟩)
    (c__clash_at : PySem.W.codeIn K cd__clash_at "_clash_at" = true)
    (k__clash_at : PySem.W.keepIn K (.ref f__clash_at) = true)
    (a__clash_in_tree : PySem.W.nsIn K mainGlobals "_clash_in_tree" = some (some (.ref f__clash_in_tree)))
    (l__clash_in_tree : K.lookup f__clash_in_tree = some ⟨oc__clash_in_tree, od__clash_in_tree, .func (PySem.W.fnOf "_clash_in_tree" "_clash_in_tree" (defArgs s__clash_in_tree) (defBody s__clash_in_tree) (defScope s__clash_in_tree) .none kV__clash_in_tree dc__clash_in_tree pm__clash_in_tree an__clash_in_tree cd__clash_in_tree ct__clash_in_tree), sl__clash_in_tree⟩)
    (c__clash_in_tree : PySem.W.codeIn K cd__clash_in_tree "_clash_in_tree" = true)
    (k__clash_in_tree : PySem.W.keepIn K (.ref f__clash_in_tree) = true)
    (a__are_entries : PySem.W.nsIn K mainGlobals "_are_entries" = some (some (.ref f__are_entries)))
    (l__are_entries : K.lookup f__are_entries = some ⟨oc__are_entries, od__are_entries, .func (PySem.W.fnOf "_are_entries" "_are_entries" (defArgs s__are_entries) (defBody s__are_entries) (defScope s__are_entries) .none kV__are_entries dc__are_entries pm__are_entries an__are_entries cd__are_entries ct__are_entries), sl__are_entries⟩)
    (c__are_entries : PySem.W.codeIn K cd__are_entries "_are_entries" = true)
    (k__are_entries : PySem.W.keepIn K (.ref f__are_entries) = true)
    (a__law_cell : PySem.W.nsIn K mainGlobals "_law_cell" = some (some (.ref f__law_cell)))
    (l__law_cell : K.lookup f__law_cell = some ⟨oc__law_cell, od__law_cell, .func (PySem.W.fnOf "_law_cell" "_law_cell" (defArgs s__law_cell) (defBody s__law_cell) (defScope s__law_cell) .none kV__law_cell dc__law_cell pm__law_cell an__law_cell cd__law_cell ct__law_cell), sl__law_cell⟩)
    (c__law_cell : PySem.W.codeIn K cd__law_cell "_law_cell" = true)
    (k__law_cell : PySem.W.keepIn K (.ref f__law_cell) = true)
    (a__law_row : PySem.W.nsIn K mainGlobals "_law_row" = some (some (.ref f__law_row)))
    (l__law_row : K.lookup f__law_row = some ⟨oc__law_row, od__law_row, .func (PySem.W.fnOf "_law_row" "_law_row" (defArgs s__law_row) (defBody s__law_row) (defScope s__law_row) .none kV__law_row dc__law_row pm__law_row an__law_row cd__law_row ct__law_row), sl__law_row⟩)
    (c__law_row : PySem.W.codeIn K cd__law_row "_law_row" = true)
    (k__law_row : PySem.W.keepIn K (.ref f__law_row) = true)
    (a__law_draw : PySem.W.nsIn K mainGlobals "_law_draw" = some (some (.ref f__law_draw)))
    (l__law_draw : K.lookup f__law_draw = some ⟨oc__law_draw, od__law_draw, .func (PySem.W.fnOf "_law_draw" "_law_draw" (defArgs s__law_draw) (defBody s__law_draw) (defScope s__law_draw) .none kV__law_draw dc__law_draw pm__law_draw an__law_draw cd__law_draw ct__law_draw), sl__law_draw⟩)
    (c__law_draw : PySem.W.codeIn K cd__law_draw "_law_draw" = true)
    (k__law_draw : PySem.W.keepIn K (.ref f__law_draw) = true)
    (a__law_digest : PySem.W.nsIn K mainGlobals "_law_digest" = some (some (.ref f__law_digest)))
    (l__law_digest : K.lookup f__law_digest = some ⟨oc__law_digest, od__law_digest, .func (PySem.W.fnOf "_law_digest" "_law_digest" (defArgs s__law_digest) (defBody s__law_digest) (defScope s__law_digest) .none kV__law_digest dc__law_digest pm__law_digest an__law_digest cd__law_digest ct__law_digest), sl__law_digest⟩)
    (c__law_digest : PySem.W.codeIn K cd__law_digest "_law_digest" = true)
    (k__law_digest : PySem.W.keepIn K (.ref f__law_digest) = true)
    (a__law_number : PySem.W.nsIn K mainGlobals "_law_number" = some (some (.ref f__law_number)))
    (l__law_number : K.lookup f__law_number = some ⟨oc__law_number, od__law_number, .func (PySem.W.fnOf "_law_number" "_law_number" (defArgs s__law_number) (defBody s__law_number) (defScope s__law_number) .none kV__law_number dc__law_number pm__law_number an__law_number cd__law_number ct__law_number), sl__law_number⟩)
    (c__law_number : PySem.W.codeIn K cd__law_number "_law_number" = true)
    (k__law_number : PySem.W.keepIn K (.ref f__law_number) = true)
    (a__law_mixing : PySem.W.nsIn K mainGlobals "_law_mixing" = some (some (.ref f__law_mixing)))
    (l__law_mixing : K.lookup f__law_mixing = some ⟨oc__law_mixing, od__law_mixing, .func (PySem.W.fnOf "_law_mixing" "_law_mixing" (defArgs s__law_mixing) (defBody s__law_mixing) (defScope s__law_mixing) .none kV__law_mixing dc__law_mixing pm__law_mixing an__law_mixing cd__law_mixing ct__law_mixing), sl__law_mixing⟩)
    (c__law_mixing : PySem.W.codeIn K cd__law_mixing "_law_mixing" = true)
    (k__law_mixing : PySem.W.keepIn K (.ref f__law_mixing) = true)
    (a__law_backs : PySem.W.nsIn K mainGlobals "_law_backs" = some (some (.ref f__law_backs)))
    (l__law_backs : K.lookup f__law_backs = some ⟨oc__law_backs, od__law_backs, .func (PySem.W.fnOf "_law_backs" "_law_backs" (defArgs s__law_backs) (defBody s__law_backs) (defScope s__law_backs) .none kV__law_backs dc__law_backs pm__law_backs an__law_backs cd__law_backs ct__law_backs), sl__law_backs⟩)
    (c__law_backs : PySem.W.codeIn K cd__law_backs "_law_backs" = true)
    (k__law_backs : PySem.W.keepIn K (.ref f__law_backs) = true)
    (a__law_half : PySem.W.nsIn K mainGlobals "_law_half" = some (some (.ref f__law_half)))
    (l__law_half : K.lookup f__law_half = some ⟨oc__law_half, od__law_half, .func (PySem.W.fnOf "_law_half" "_law_half" (defArgs s__law_half) (defBody s__law_half) (defScope s__law_half) .none kV__law_half dc__law_half pm__law_half an__law_half cd__law_half ct__law_half), sl__law_half⟩)
    (c__law_half : PySem.W.codeIn K cd__law_half "_law_half" = true)
    (k__law_half : PySem.W.keepIn K (.ref f__law_half) = true)
    (a__law_root : PySem.W.nsIn K mainGlobals "_law_root" = some (some (.ref f__law_root)))
    (l__law_root : K.lookup f__law_root = some ⟨oc__law_root, od__law_root, .func (PySem.W.fnOf "_law_root" "_law_root" (defArgs s__law_root) (defBody s__law_root) (defScope s__law_root) .none kV__law_root dc__law_root pm__law_root an__law_root cd__law_root ct__law_root), sl__law_root⟩)
    (c__law_root : PySem.W.codeIn K cd__law_root "_law_root" = true)
    (k__law_root : PySem.W.keepIn K (.ref f__law_root) = true)
    (a__law_way : PySem.W.nsIn K mainGlobals "_law_way" = some (some (.ref f__law_way)))
    (l__law_way : K.lookup f__law_way = some ⟨oc__law_way, od__law_way, .func (PySem.W.fnOf "_law_way" "_law_way" (defArgs s__law_way) (defBody s__law_way) (defScope s__law_way) .none kV__law_way dc__law_way pm__law_way an__law_way cd__law_way ct__law_way), sl__law_way⟩)
    (c__law_way : PySem.W.codeIn K cd__law_way "_law_way" = true)
    (k__law_way : PySem.W.keepIn K (.ref f__law_way) = true)
    (a__law_new_head : PySem.W.nsIn K mainGlobals "_law_new_head" = some (some (.ref f__law_new_head)))
    (l__law_new_head : K.lookup f__law_new_head = some ⟨oc__law_new_head, od__law_new_head, .func (PySem.W.fnOf "_law_new_head" "_law_new_head" (defArgs s__law_new_head) (defBody s__law_new_head) (defScope s__law_new_head) .none kV__law_new_head dc__law_new_head pm__law_new_head an__law_new_head cd__law_new_head ct__law_new_head), sl__law_new_head⟩)
    (c__law_new_head : PySem.W.codeIn K cd__law_new_head "_law_new_head" = true)
    (k__law_new_head : PySem.W.keepIn K (.ref f__law_new_head) = true)
    (a__law_new_thing : PySem.W.nsIn K mainGlobals "_law_new_thing" = some (some (.ref f__law_new_thing)))
    (l__law_new_thing : K.lookup f__law_new_thing = some ⟨oc__law_new_thing, od__law_new_thing, .func (PySem.W.fnOf "_law_new_thing" "_law_new_thing" (defArgs s__law_new_thing) (defBody s__law_new_thing) (defScope s__law_new_thing) .none kV__law_new_thing dc__law_new_thing pm__law_new_thing an__law_new_thing cd__law_new_thing ct__law_new_thing), sl__law_new_thing⟩)
    (c__law_new_thing : PySem.W.codeIn K cd__law_new_thing "_law_new_thing" = true)
    (k__law_new_thing : PySem.W.keepIn K (.ref f__law_new_thing) = true)
    (a__law_places : PySem.W.nsIn K mainGlobals "_law_places" = some (some (.ref f__law_places)))
    (l__law_places : K.lookup f__law_places = some ⟨oc__law_places, od__law_places, .func (PySem.W.fnOf "_law_places" "_law_places" (defArgs s__law_places) (defBody s__law_places) (defScope s__law_places) .none kV__law_places dc__law_places pm__law_places an__law_places cd__law_places ct__law_places), sl__law_places⟩)
    (c__law_places : PySem.W.codeIn K cd__law_places "_law_places" = true)
    (k__law_places : PySem.W.keepIn K (.ref f__law_places) = true)
    (a__law_fits_back : PySem.W.nsIn K mainGlobals "_law_fits_back" = some (some (.ref f__law_fits_back)))
    (l__law_fits_back : K.lookup f__law_fits_back = some ⟨oc__law_fits_back, od__law_fits_back, .func (PySem.W.fnOf "_law_fits_back" "_law_fits_back" (defArgs s__law_fits_back) (defBody s__law_fits_back) (defScope s__law_fits_back) .none kV__law_fits_back dc__law_fits_back pm__law_fits_back an__law_fits_back cd__law_fits_back ct__law_fits_back), sl__law_fits_back⟩)
    (c__law_fits_back : PySem.W.codeIn K cd__law_fits_back "_law_fits_back" = true)
    (k__law_fits_back : PySem.W.keepIn K (.ref f__law_fits_back) = true)
    (a__law_ahead : PySem.W.nsIn K mainGlobals "_law_ahead" = some (some (.ref f__law_ahead)))
    (l__law_ahead : K.lookup f__law_ahead = some ⟨oc__law_ahead, od__law_ahead, .func (PySem.W.fnOf "_law_ahead" "_law_ahead" (defArgs s__law_ahead) (defBody s__law_ahead) (defScope s__law_ahead) .none kV__law_ahead dc__law_ahead pm__law_ahead an__law_ahead cd__law_ahead ct__law_ahead), sl__law_ahead⟩)
    (c__law_ahead : PySem.W.codeIn K cd__law_ahead "_law_ahead" = true)
    (k__law_ahead : PySem.W.keepIn K (.ref f__law_ahead) = true)
    (a__law_walk : PySem.W.nsIn K mainGlobals "_law_walk" = some (some (.ref f__law_walk)))
    (l__law_walk : K.lookup f__law_walk = some ⟨oc__law_walk, od__law_walk, .func (PySem.W.fnOf "_law_walk" "_law_walk" (defArgs s__law_walk) (defBody s__law_walk) (defScope s__law_walk) .none kV__law_walk dc__law_walk pm__law_walk an__law_walk cd__law_walk ct__law_walk), sl__law_walk⟩)
    (c__law_walk : PySem.W.codeIn K cd__law_walk "_law_walk" = true)
    (k__law_walk : PySem.W.keepIn K (.ref f__law_walk) = true)
    (a__law_small : PySem.W.nsIn K mainGlobals "_law_small" = some (some (.ref f__law_small)))
    (l__law_small : K.lookup f__law_small = some ⟨oc__law_small, od__law_small, .func (PySem.W.fnOf "_law_small" "_law_small" (defArgs s__law_small) (defBody s__law_small) (defScope s__law_small) .none kV__law_small dc__law_small pm__law_small an__law_small cd__law_small ct__law_small), sl__law_small⟩)
    (c__law_small : PySem.W.codeIn K cd__law_small "_law_small" = true)
    (k__law_small : PySem.W.keepIn K (.ref f__law_small) = true)
    (a__law_made_world : PySem.W.nsIn K mainGlobals "_law_made_world" = some (some (.ref f__law_made_world)))
    (l__law_made_world : K.lookup f__law_made_world = some ⟨oc__law_made_world, od__law_made_world, .func (PySem.W.fnOf "_law_made_world" "_law_made_world" (defArgs s__law_made_world) (defBody s__law_made_world) (defScope s__law_made_world) .none kV__law_made_world dc__law_made_world pm__law_made_world an__law_made_world cd__law_made_world ct__law_made_world), sl__law_made_world⟩)
    (c__law_made_world : PySem.W.codeIn K cd__law_made_world "_law_made_world" = true)
    (k__law_made_world : PySem.W.keepIn K (.ref f__law_made_world) = true)
    (a__law_closed : PySem.W.nsIn K mainGlobals "_law_closed" = some (some (.ref f__law_closed)))
    (l__law_closed : K.lookup f__law_closed = some ⟨oc__law_closed, od__law_closed, .func (PySem.W.fnOf "_law_closed" "_law_closed" (defArgs s__law_closed) (defBody s__law_closed) (defScope s__law_closed) .none kV__law_closed dc__law_closed pm__law_closed an__law_closed cd__law_closed ct__law_closed), sl__law_closed⟩)
    (c__law_closed : PySem.W.codeIn K cd__law_closed "_law_closed" = true)
    (k__law_closed : PySem.W.keepIn K (.ref f__law_closed) = true)
    (a__law_trace_ok : PySem.W.nsIn K mainGlobals "_law_trace_ok" = some (some (.ref f__law_trace_ok)))
    (l__law_trace_ok : K.lookup f__law_trace_ok = some ⟨oc__law_trace_ok, od__law_trace_ok, .func (PySem.W.fnOf "_law_trace_ok" "_law_trace_ok" (defArgs s__law_trace_ok) (defBody s__law_trace_ok) (defScope s__law_trace_ok) .none kV__law_trace_ok dc__law_trace_ok pm__law_trace_ok an__law_trace_ok cd__law_trace_ok ct__law_trace_ok), sl__law_trace_ok⟩)
    (c__law_trace_ok : PySem.W.codeIn K cd__law_trace_ok "_law_trace_ok" = true)
    (k__law_trace_ok : PySem.W.keepIn K (.ref f__law_trace_ok) = true)
    (a__law_put_all : PySem.W.nsIn K mainGlobals "_law_put_all" = some (some (.ref f__law_put_all)))
    (l__law_put_all : K.lookup f__law_put_all = some ⟨oc__law_put_all, od__law_put_all, .func (PySem.W.fnOf "_law_put_all" "_law_put_all" (defArgs s__law_put_all) (defBody s__law_put_all) (defScope s__law_put_all) .none kV__law_put_all dc__law_put_all pm__law_put_all an__law_put_all cd__law_put_all ct__law_put_all), sl__law_put_all⟩)
    (c__law_put_all : PySem.W.codeIn K cd__law_put_all "_law_put_all" = true)
    (k__law_put_all : PySem.W.keepIn K (.ref f__law_put_all) = true)
    (a_law : PySem.W.nsIn K mainGlobals "law" = some (some (.ref f_law)))
    (l_law : K.lookup f_law = some ⟨oc_law, od_law, .func (PySem.W.fnOf "law" "law" (defArgs s_law) (defBody s_law) (defScope s_law) .none kV_law dc_law pm_law an_law cd_law ct_law), sl_law⟩)
    (c_law : PySem.W.codeIn K cd_law "law" = true)
    (k_law : PySem.W.keepIn K (.ref f_law) = true)
    (a_Mixing___init__ : PySem.W.findIn K (.ref C_Mixing) "__init__" = some (some (.ref f_Mixing___init__)))
    (i_Mixing___init__ : PySem.W.isFn K (.ref f_Mixing___init__) = true)
    (l_Mixing___init__ : K.lookup f_Mixing___init__ = some ⟨oc_Mixing___init__, od_Mixing___init__, .func (PySem.W.fnOf "__init__" "Mixing.__init__" (defArgs s_Mixing___init__) (defBody s_Mixing___init__) (defScope s_Mixing___init__) .none kV_Mixing___init__ dc_Mixing___init__ pm_Mixing___init__ an_Mixing___init__ cd_Mixing___init__ ct_Mixing___init__), sl_Mixing___init__⟩)
    (c_Mixing___init__ : PySem.W.codeIn K cd_Mixing___init__ "Mixing.__init__" = true)
    (k_Mixing___init__ : PySem.W.keepIn K (.ref f_Mixing___init__) = true)
    (a_Paper___init__ : PySem.W.findIn K (.ref C_Paper) "__init__" = some (some (.ref f_Paper___init__)))
    (i_Paper___init__ : PySem.W.isFn K (.ref f_Paper___init__) = true)
    (l_Paper___init__ : K.lookup f_Paper___init__ = some ⟨oc_Paper___init__, od_Paper___init__, .func (PySem.W.fnOf "__init__" "Paper.__init__" (defArgs s_Paper___init__) (defBody s_Paper___init__) (defScope s_Paper___init__) .none kV_Paper___init__ dc_Paper___init__ pm_Paper___init__ an_Paper___init__ cd_Paper___init__ ct_Paper___init__), sl_Paper___init__⟩)
    (c_Paper___init__ : PySem.W.codeIn K cd_Paper___init__ "Paper.__init__" = true)
    (k_Paper___init__ : PySem.W.keepIn K (.ref f_Paper___init__) = true)
    (a_Library___init__ : PySem.W.findIn K (.ref C_Library) "__init__" = some (some (.ref f_Library___init__)))
    (i_Library___init__ : PySem.W.isFn K (.ref f_Library___init__) = true)
    (l_Library___init__ : K.lookup f_Library___init__ = some ⟨oc_Library___init__, od_Library___init__, .func (PySem.W.fnOf "__init__" "Library.__init__" (defArgs s_Library___init__) (defBody s_Library___init__) (defScope s_Library___init__) .none kV_Library___init__ dc_Library___init__ pm_Library___init__ an_Library___init__ cd_Library___init__ ct_Library___init__), sl_Library___init__⟩)
    (c_Library___init__ : PySem.W.codeIn K cd_Library___init__ "Library.__init__" = true)
    (k_Library___init__ : PySem.W.keepIn K (.ref f_Library___init__) = true)
    (a_Library_put : PySem.W.findIn K (.ref C_Library) "put" = some (some (.ref f_Library_put)))
    (i_Library_put : PySem.W.isFn K (.ref f_Library_put) = true)
    (l_Library_put : K.lookup f_Library_put = some ⟨oc_Library_put, od_Library_put, .func (PySem.W.fnOf "put" "Library.put" (defArgs s_Library_put) (defBody s_Library_put) (defScope s_Library_put) .none kV_Library_put dc_Library_put pm_Library_put an_Library_put cd_Library_put ct_Library_put), sl_Library_put⟩)
    (c_Library_put : PySem.W.codeIn K cd_Library_put "Library.put" = true)
    (k_Library_put : PySem.W.keepIn K (.ref f_Library_put) = true)
    (a_Library_row_of : PySem.W.findIn K (.ref C_Library) "row_of" = some (some (.ref f_Library_row_of)))
    (i_Library_row_of : PySem.W.isFn K (.ref f_Library_row_of) = true)
    (l_Library_row_of : K.lookup f_Library_row_of = some ⟨oc_Library_row_of, od_Library_row_of, .func (PySem.W.fnOf "row_of" "Library.row_of" (defArgs s_Library_row_of) (defBody s_Library_row_of) (defScope s_Library_row_of) .none kV_Library_row_of dc_Library_row_of pm_Library_row_of an_Library_row_of cd_Library_row_of ct_Library_row_of), sl_Library_row_of⟩)
    (c_Library_row_of : PySem.W.codeIn K cd_Library_row_of "Library.row_of" = true)
    (k_Library_row_of : PySem.W.keepIn K (.ref f_Library_row_of) = true)
    (a_Library_entries_of : PySem.W.findIn K (.ref C_Library) "entries_of" = some (some (.ref f_Library_entries_of)))
    (i_Library_entries_of : PySem.W.isFn K (.ref f_Library_entries_of) = true)
    (l_Library_entries_of : K.lookup f_Library_entries_of = some ⟨oc_Library_entries_of, od_Library_entries_of, .func (PySem.W.fnOf "entries_of" "Library.entries_of" (defArgs s_Library_entries_of) (defBody s_Library_entries_of) (defScope s_Library_entries_of) .none kV_Library_entries_of dc_Library_entries_of pm_Library_entries_of an_Library_entries_of cd_Library_entries_of ct_Library_entries_of), sl_Library_entries_of⟩)
    (c_Library_entries_of : PySem.W.codeIn K cd_Library_entries_of "Library.entries_of" = true)
    (k_Library_entries_of : PySem.W.keepIn K (.ref f_Library_entries_of) = true)
    (a_Library_rows : PySem.W.findIn K (.ref C_Library) "rows" = some (some (.ref f_Library_rows)))
    (i_Library_rows : PySem.W.isFn K (.ref f_Library_rows) = true)
    (l_Library_rows : K.lookup f_Library_rows = some ⟨oc_Library_rows, od_Library_rows, .func (PySem.W.fnOf "rows" "Library.rows" (defArgs s_Library_rows) (defBody s_Library_rows) (defScope s_Library_rows) .none kV_Library_rows dc_Library_rows pm_Library_rows an_Library_rows cd_Library_rows ct_Library_rows), sl_Library_rows⟩)
    (c_Library_rows : PySem.W.codeIn K cd_Library_rows "Library.rows" = true)
    (k_Library_rows : PySem.W.keepIn K (.ref f_Library_rows) = true)
    (a_Library_gaps : PySem.W.findIn K (.ref C_Library) "gaps" = some (some (.ref f_Library_gaps)))
    (i_Library_gaps : PySem.W.isFn K (.ref f_Library_gaps) = true)
    (l_Library_gaps : K.lookup f_Library_gaps = some ⟨oc_Library_gaps, od_Library_gaps, .func (PySem.W.fnOf "gaps" "Library.gaps" (defArgs s_Library_gaps) (defBody s_Library_gaps) (defScope s_Library_gaps) .none kV_Library_gaps dc_Library_gaps pm_Library_gaps an_Library_gaps cd_Library_gaps ct_Library_gaps), sl_Library_gaps⟩)
    (c_Library_gaps : PySem.W.codeIn K cd_Library_gaps "Library.gaps" = true)
    (k_Library_gaps : PySem.W.keepIn K (.ref f_Library_gaps) = true)
    (a_Library_is_closed : PySem.W.findIn K (.ref C_Library) "is_closed" = some (some (.ref f_Library_is_closed)))
    (i_Library_is_closed : PySem.W.isFn K (.ref f_Library_is_closed) = true)
    (l_Library_is_closed : K.lookup f_Library_is_closed = some ⟨oc_Library_is_closed, od_Library_is_closed, .func (PySem.W.fnOf "is_closed" "Library.is_closed" (defArgs s_Library_is_closed) (defBody s_Library_is_closed) (defScope s_Library_is_closed) .none kV_Library_is_closed dc_Library_is_closed pm_Library_is_closed an_Library_is_closed cd_Library_is_closed ct_Library_is_closed), sl_Library_is_closed⟩)
    (c_Library_is_closed : PySem.W.codeIn K cd_Library_is_closed "Library.is_closed" = true)
    (k_Library_is_closed : PySem.W.keepIn K (.ref f_Library_is_closed) = true)
    (a_Library__held_by : PySem.W.findIn K (.ref C_Library) "_held_by" = some (some (.ref f_Library__held_by)))
    (i_Library__held_by : PySem.W.isFn K (.ref f_Library__held_by) = true)
    (l_Library__held_by : K.lookup f_Library__held_by = some ⟨oc_Library__held_by, od_Library__held_by, .func (PySem.W.fnOf "_held_by" "Library._held_by" (defArgs s_Library__held_by) (defBody s_Library__held_by) (defScope s_Library__held_by) .none kV_Library__held_by dc_Library__held_by pm_Library__held_by an_Library__held_by cd_Library__held_by ct_Library__held_by), sl_Library__held_by⟩)
    (c_Library__held_by : PySem.W.codeIn K cd_Library__held_by "Library._held_by" = true)
    (k_Library__held_by : PySem.W.keepIn K (.ref f_Library__held_by) = true)
    (a_ThingError___init__ : PySem.W.findIn K (.ref E_ThingError) "__init__" = some (some (.ref f_ThingError___init__)))
    (i_ThingError___init__ : PySem.W.typeIn K (.ref f_ThingError___init__) = some (.type "function"))
    (l_ThingError___init__ : K.lookup f_ThingError___init__ = some ⟨oc_ThingError___init__, od_ThingError___init__, .func (PySem.W.fnOf "__init__" "ThingError.__init__" (defArgs s_ThingError___init__) (defBody s_ThingError___init__) (defScope s_ThingError___init__) .none kV_ThingError___init__ dc_ThingError___init__ pm_ThingError___init__ an_ThingError___init__ cd_ThingError___init__ ct_ThingError___init__), sl_ThingError___init__⟩)
    (c_ThingError___init__ : PySem.W.codeIn K cd_ThingError___init__ "ThingError.__init__" = true)
    (k_ThingError___init__ : PySem.W.keepIn K (.ref f_ThingError___init__) = true)
    (pg_Mixing : PySem.W.plainGet K C_Mixing Str.empty = true)
    (hd_Mixing : PySem.W.hasDictIn K C_Mixing = true)
    (po_Mixing : PySem.W.plainOver K C_Mixing = true)
    (sa_Mixing : PySem.W.findIn K (.ref C_Mixing) "__setattr__" = some (some (.builtin "object.__setattr__")))
    (mk_Mixing : PySem.W.makesIn K C_Mixing = true)
    (kc_Mixing : PySem.W.keepIn K (.ref C_Mixing) = true)
    (n_Mixing_bound : PySem.W.findIn K (.ref C_Mixing) "bound" = some none)
    (n_Mixing_factor : PySem.W.findIn K (.ref C_Mixing) "factor" = some none)
    (pg_Paper : PySem.W.plainGet K C_Paper Str.empty = true)
    (hd_Paper : PySem.W.hasDictIn K C_Paper = true)
    (po_Paper : PySem.W.plainOver K C_Paper = true)
    (sa_Paper : PySem.W.findIn K (.ref C_Paper) "__setattr__" = some (some (.builtin "object.__setattr__")))
    (mk_Paper : PySem.W.makesIn K C_Paper = true)
    (kc_Paper : PySem.W.keepIn K (.ref C_Paper) = true)
    (n_Paper_first : PySem.W.findIn K (.ref C_Paper) "first" = some none)
    (n_Paper_steps : PySem.W.findIn K (.ref C_Paper) "steps" = some none)
    (pg_Library : PySem.W.plainGet K C_Library Str.empty = true)
    (hd_Library : PySem.W.hasDictIn K C_Library = true)
    (po_Library : PySem.W.plainOver K C_Library = true)
    (sa_Library : PySem.W.findIn K (.ref C_Library) "__setattr__" = some (some (.builtin "object.__setattr__")))
    (mk_Library : PySem.W.makesIn K C_Library = true)
    (kc_Library : PySem.W.keepIn K (.ref C_Library) = true)
    (n_Library__entries : PySem.W.findIn K (.ref C_Library) "_entries" = some none)
    (n_Library__rows : PySem.W.findIn K (.ref C_Library) "_rows" = some none)
    (n_Library_mixing : PySem.W.findIn K (.ref C_Library) "mixing" = some none)
    (z_abs : PySem.W.nsIn K mainGlobals "abs" = some none)
    (z_enumerate : PySem.W.nsIn K mainGlobals "enumerate" = some none)
    (z_int : PySem.W.nsIn K mainGlobals "int" = some none)
    (z_isinstance : PySem.W.nsIn K mainGlobals "isinstance" = some none)
    (z_len : PySem.W.nsIn K mainGlobals "len" = some none)
    (z_list : PySem.W.nsIn K mainGlobals "list" = some none)
    (z_range : PySem.W.nsIn K mainGlobals "range" = some none)
    (z_tuple : PySem.W.nsIn K mainGlobals "tuple" = some none)
    (z_zip : PySem.W.nsIn K mainGlobals "zip" = some none)
    (v_PRIME : PySem.W.nsIn K mainGlobals "PRIME" = some (some (.int 2305843009213693951 t_PRIME)))
    (v_BEACON : PySem.W.nsIn K mainGlobals "BEACON" = some (some (.int 1 t_BEACON)))
    (v_DOCUMENT : PySem.W.nsIn K mainGlobals "DOCUMENT" = some (some (.int 2 t_DOCUMENT)))
    (v_HEAD : PySem.W.nsIn K mainGlobals "HEAD" = some (some (.int 4 t_HEAD)))
    (v_RENEWAL : PySem.W.nsIn K mainGlobals "RENEWAL" = some (some (.int 5 t_RENEWAL)))
    (v_NODE : PySem.W.nsIn K mainGlobals "NODE" = some (some (.int 3 t_NODE)))
    (v_CITE : PySem.W.nsIn K mainGlobals "CITE" = some (some (.str "cite" t_CITE)))
    (v_BACK : PySem.W.nsIn K mainGlobals "BACK" = some (some (.str "back" t_BACK)))
    (v_ENTRY : PySem.W.nsIn K mainGlobals "ENTRY" = some (some (.str "entry" t_ENTRY)))
    : ∃ fd : FuncData, (∀ (s : Shared) (v : Value), BindsTo s fd ⟨[v], []⟩ [("script", v)]) ∧ ∀ base : Heap, K.In base → base.Ns mainGlobals mg → FnOk l.prog w K mg base CX0 30 fa fd ["script"] (sp_law K) := by
  have e := hfa.symm.trans (PySem.W.mg_of X G a_law)
  cases e
  have F_digest := fun_mk (st := s_digest) l_digest c_digest k_digest
  have b_digest := F_digest.binds (ps := ["mixing", "row"]) fun _ _ _ _ _ _ us hl => match us, hl with | [_, _], _ => rfl
  have F__mixed := fun_mk (st := s__mixed) l__mixed c__mixed k__mixed
  have b__mixed := F__mixed.binds (ps := ["mixing", "state", "number"]) fun _ _ _ _ _ _ us hl => match us, hl with | [_, _, _], _ => rfl
  have F_digest_of := fun_mk (st := s_digest_of) l_digest_of c_digest_of k_digest_of
  have b_digest_of := F_digest_of.binds (ps := ["mixing", "row"]) fun _ _ _ _ _ _ us hl => match us, hl with | [_, _], _ => rfl
  have F_is_thing := fun_mk (st := s_is_thing) l_is_thing c_is_thing k_is_thing
  have b_is_thing := F_is_thing.binds (ps := ["row"]) fun _ _ _ _ _ _ us hl => match us, hl with | [_], _ => rfl
  have F__is_document := fun_mk (st := s__is_document) l__is_document c__is_document k__is_document
  have b__is_document := F__is_document.binds (ps := ["row"]) fun _ _ _ _ _ _ us hl => match us, hl with | [_], _ => rfl
  have F__is_head := fun_mk (st := s__is_head) l__is_head c__is_head k__is_head
  have b__is_head := F__is_head.binds (ps := ["row"]) fun _ _ _ _ _ _ us hl => match us, hl with | [_], _ => rfl
  have F_kind_of := fun_mk (st := s_kind_of) l_kind_of c_kind_of k_kind_of
  have b_kind_of := F_kind_of.binds (ps := ["row"]) fun _ _ _ _ _ _ us hl => match us, hl with | [_], _ => rfl
  have F__back_count := fun_mk (st := s__back_count) l__back_count c__back_count k__back_count
  have b__back_count := F__back_count.binds (ps := ["number"]) fun _ _ _ _ _ _ us hl => match us, hl with | [_], _ => rfl
  have F__greatest_step := fun_mk (st := s__greatest_step) l__greatest_step c__greatest_step k__greatest_step
  have b__greatest_step := F__greatest_step.binds (ps := ["number"]) fun _ _ _ _ _ _ us hl => match us, hl with | [_], _ => rfl
  have F__first_count := fun_mk (st := s__first_count) l__first_count c__first_count k__first_count
  have b__first_count := F__first_count.binds (ps := ["count"]) fun _ _ _ _ _ _ us hl => match us, hl with | [_], _ => rfl
  have F_root_of := fun_mk (st := s_root_of) l_root_of c_root_of k_root_of
  have b_root_of := F_root_of.binds (ps := ["mixing", "entries"]) fun _ _ _ _ _ _ us hl => match us, hl with | [_, _], _ => rfl
  have F__root_and_nodes := fun_mk (st := s__root_and_nodes) l__root_and_nodes c__root_and_nodes k__root_and_nodes
  have b__root_and_nodes := F__root_and_nodes.binds (ps := ["mixing", "entries"]) fun _ _ _ _ _ _ us hl => match us, hl with | [_, _], _ => rfl
  have F_way_of := fun_mk (st := s_way_of) l_way_of c_way_of k_way_of
  have b_way_of := F_way_of.binds (ps := ["mixing", "entries", "index"]) fun _ _ _ _ _ _ us hl => match us, hl with | [_, _, _], _ => rfl
  have F_turns := fun_mk (st := s_turns) l_turns c_turns k_turns
  have b_turns := F_turns.binds (ps := ["count", "index"]) fun _ _ _ _ _ _ us hl => match us, hl with | [_, _], _ => rfl
  have F__nodes_up := fun_mk (st := s__nodes_up) l__nodes_up c__nodes_up k__nodes_up
  have b__nodes_up := F__nodes_up.binds (ps := ["mixing", "count", "index", "entry", "way"]) fun _ _ _ _ _ _ us hl => match us, hl with | [_, _, _, _, _], _ => rfl
  have F_clash_of_ways := fun_mk (st := s_clash_of_ways) l_clash_of_ways c_clash_of_ways k_clash_of_ways
  have b_clash_of_ways := F_clash_of_ways.binds (ps := ["mixing", "count", "index", "one", "two"]) fun _ _ _ _ _ _ us hl => match us, hl with | [_, _, _, _, _], _ => rfl
  have F_clash_of_entries := fun_mk (st := s_clash_of_entries) l_clash_of_entries c_clash_of_entries k_clash_of_entries
  have b_clash_of_entries := F_clash_of_entries.binds (ps := ["mixing", "one", "two"]) fun _ _ _ _ _ _ us hl => match us, hl with | [_, _, _], _ => rfl
  have F__first_difference := fun_mk (st := s__first_difference) l__first_difference c__first_difference k__first_difference
  have b__first_difference := F__first_difference.binds (ps := ["one_nodes", "two_nodes"]) fun _ _ _ _ _ _ us hl => match us, hl with | [_, _], _ => rfl
  have F_listed := fun_mk (st := s_listed) l_listed c_listed k_listed
  have b_listed := F_listed.binds (ps := ["row", "word"]) fun _ _ _ _ _ _ us hl => match us, hl with | [_, _], _ => rfl
  have F_rows_of := fun_mk (st := s_rows_of) l_rows_of c_rows_of k_rows_of
  have b_rows_of := F_rows_of.binds (ps := ["paper"]) fun _ _ _ _ _ _ us hl => match us, hl with | [_], _ => rfl
  have F_trace := fun_mk (st := s_trace) l_trace c_trace k_trace
  have b_trace := F_trace.binds (ps := ["library", "paper"]) fun _ _ _ _ _ _ us hl => match us, hl with | [_, _], _ => rfl
  have F__clash_at := fun_mk (st := s__clash_at) l__clash_at c__clash_at k__clash_at
  have b__clash_at := F__clash_at.binds (ps := ["library", "before", "row", "place"]) fun _ _ _ _ _ _ us hl => match us, hl with | [_, _, _, _], _ => rfl
  have F__clash_in_tree := fun_mk (st := s__clash_in_tree) l__clash_in_tree c__clash_in_tree k__clash_in_tree
  have b__clash_in_tree := F__clash_in_tree.binds (ps := ["library", "mark", "row", "place"]) fun _ _ _ _ _ _ us hl => match us, hl with | [_, _, _, _], _ => rfl
  have F__are_entries := fun_mk (st := s__are_entries) l__are_entries c__are_entries k__are_entries
  have b__are_entries := F__are_entries.binds (ps := ["mixing", "row", "entries"]) fun _ _ _ _ _ _ us hl => match us, hl with | [_, _, _], _ => rfl
  have F__law_cell := fun_mk (st := s__law_cell) l__law_cell c__law_cell k__law_cell
  have b__law_cell := F__law_cell.binds (ps := ["script", "k"]) fun _ _ _ _ _ _ us hl => match us, hl with | [_, _], _ => rfl
  have F__law_row := fun_mk (st := s__law_row) l__law_row c__law_row k__law_row
  have b__law_row := F__law_row.binds (ps := ["script", "first", "last"]) fun _ _ _ _ _ _ us hl => match us, hl with | [_, _, _], _ => rfl
  have F__law_draw := fun_mk (st := s__law_draw) l__law_draw c__law_draw k__law_draw
  have b__law_draw := F__law_draw.binds (ps := ["box", "many"]) fun _ _ _ _ _ _ us hl => match us, hl with | [_, _], _ => rfl
  have F__law_digest := fun_mk (st := s__law_digest) l__law_digest c__law_digest k__law_digest
  have b__law_digest := F__law_digest.binds (ps := ["m", "row"]) fun _ _ _ _ _ _ us hl => match us, hl with | [_, _], _ => rfl
  have F__law_number := fun_mk (st := s__law_number) l__law_number c__law_number k__law_number
  have b__law_number := F__law_number.binds (ps := ["box"]) fun _ _ _ _ _ _ us hl => match us, hl with | [_], _ => rfl
  have F__law_mixing := fun_mk (st := s__law_mixing) l__law_mixing c__law_mixing k__law_mixing
  have b__law_mixing := F__law_mixing.binds (ps := ["box"]) fun _ _ _ _ _ _ us hl => match us, hl with | [_], _ => rfl
  have F__law_backs := fun_mk (st := s__law_backs) l__law_backs c__law_backs k__law_backs
  have b__law_backs := F__law_backs.binds (ps := ["number"]) fun _ _ _ _ _ _ us hl => match us, hl with | [_], _ => rfl
  have F__law_half := fun_mk (st := s__law_half) l__law_half c__law_half k__law_half
  have b__law_half := F__law_half.binds (ps := ["count"]) fun _ _ _ _ _ _ us hl => match us, hl with | [_], _ => rfl
  have F__law_root := fun_mk (st := s__law_root) l__law_root c__law_root k__law_root
  have b__law_root := F__law_root.binds (ps := ["m", "entries"]) fun _ _ _ _ _ _ us hl => match us, hl with | [_, _], _ => rfl
  have F__law_way := fun_mk (st := s__law_way) l__law_way c__law_way k__law_way
  have b__law_way := F__law_way.binds (ps := ["m", "entries", "index"]) fun _ _ _ _ _ _ us hl => match us, hl with | [_, _, _], _ => rfl
  have F__law_new_head := fun_mk (st := s__law_new_head) l__law_new_head c__law_new_head k__law_new_head
  have b__law_new_head := F__law_new_head.binds (ps := ["box", "world"]) fun _ _ _ _ _ _ us hl => match us, hl with | [_, _], _ => rfl
  have F__law_new_thing := fun_mk (st := s__law_new_thing) l__law_new_thing c__law_new_thing k__law_new_thing
  have b__law_new_thing := F__law_new_thing.binds (ps := ["box", "world"]) fun _ _ _ _ _ _ us hl => match us, hl with | [_, _], _ => rfl
  have F__law_places := fun_mk (st := s__law_places) l__law_places c__law_places k__law_places
  have b__law_places := F__law_places.binds (ps := ["m", "row", "entries"]) fun _ _ _ _ _ _ us hl => match us, hl with | [_, _, _], _ => rfl
  have F__law_fits_back := fun_mk (st := s__law_fits_back) l__law_fits_back c__law_fits_back k__law_fits_back
  have b__law_fits_back := F__law_fits_back.binds (ps := ["before", "row", "place"]) fun _ _ _ _ _ _ us hl => match us, hl with | [_, _, _], _ => rfl
  have F__law_ahead := fun_mk (st := s__law_ahead) l__law_ahead c__law_ahead k__law_ahead
  have b__law_ahead := F__law_ahead.binds (ps := ["world", "row"]) fun _ _ _ _ _ _ us hl => match us, hl with | [_, _], _ => rfl
  have F__law_walk := fun_mk (st := s__law_walk) l__law_walk c__law_walk k__law_walk
  have b__law_walk := F__law_walk.binds (ps := ["box", "world", "row", "most"]) fun _ _ _ _ _ _ us hl => match us, hl with | [_, _, _, _], _ => rfl
  have F__law_small := fun_mk (st := s__law_small) l__law_small c__law_small k__law_small
  have b__law_small := F__law_small.binds (ps := ["box", "world"]) fun _ _ _ _ _ _ us hl => match us, hl with | [_, _], _ => rfl
  have F__law_made_world := fun_mk (st := s__law_made_world) l__law_made_world c__law_made_world k__law_made_world
  have b__law_made_world := F__law_made_world.binds (ps := ["box", "many"]) fun _ _ _ _ _ _ us hl => match us, hl with | [_, _], _ => rfl
  have F__law_closed := fun_mk (st := s__law_closed) l__law_closed c__law_closed k__law_closed
  have b__law_closed := F__law_closed.binds (ps := ["world"]) fun _ _ _ _ _ _ us hl => match us, hl with | [_], _ => rfl
  have F__law_trace_ok := fun_mk (st := s__law_trace_ok) l__law_trace_ok c__law_trace_ok k__law_trace_ok
  have b__law_trace_ok := F__law_trace_ok.binds (ps := ["m", "known", "told", "paper"]) fun _ _ _ _ _ _ us hl => match us, hl with | [_, _, _, _], _ => rfl
  have F__law_put_all := fun_mk (st := s__law_put_all) l__law_put_all c__law_put_all k__law_put_all
  have b__law_put_all := F__law_put_all.binds (ps := ["library", "world", "rows"]) fun _ _ _ _ _ _ us hl => match us, hl with | [_, _, _], _ => rfl
  have F_law := fun_mk (st := s_law) l_law c_law k_law
  have F_Mixing___init__ := fun_mk (st := s_Mixing___init__) l_Mixing___init__ c_Mixing___init__ k_Mixing___init__
  have b_Mixing___init__ := F_Mixing___init__.binds (ps := ["self", "bound", "factor"]) fun _ _ _ _ _ _ us hl => match us, hl with | [_, _, _], _ => rfl
  have F_Paper___init__ := fun_mk (st := s_Paper___init__) l_Paper___init__ c_Paper___init__ k_Paper___init__
  have b_Paper___init__ := F_Paper___init__.binds (ps := ["self", "first", "steps"]) fun _ _ _ _ _ _ us hl => match us, hl with | [_, _, _], _ => rfl
  have F_Library___init__ := fun_mk (st := s_Library___init__) l_Library___init__ c_Library___init__ k_Library___init__
  have b_Library___init__ := F_Library___init__.binds (ps := ["self", "mixing"]) fun _ _ _ _ _ _ us hl => match us, hl with | [_, _], _ => rfl
  have F_Library_put := fun_mk (st := s_Library_put) l_Library_put c_Library_put k_Library_put
  have b_Library_put := F_Library_put.binds (ps := ["self", "row", "entries"]) fun _ _ _ _ _ _ us hl => match us, hl with | [_, _, _], _ => rfl
  have F_Library_row_of := fun_mk (st := s_Library_row_of) l_Library_row_of c_Library_row_of k_Library_row_of
  have b_Library_row_of := F_Library_row_of.binds (ps := ["self", "digest"]) fun _ _ _ _ _ _ us hl => match us, hl with | [_, _], _ => rfl
  have F_Library_entries_of := fun_mk (st := s_Library_entries_of) l_Library_entries_of c_Library_entries_of k_Library_entries_of
  have b_Library_entries_of := F_Library_entries_of.binds (ps := ["self", "digest"]) fun _ _ _ _ _ _ us hl => match us, hl with | [_, _], _ => rfl
  have F_Library_rows := fun_mk (st := s_Library_rows) l_Library_rows c_Library_rows k_Library_rows
  have b_Library_rows := F_Library_rows.binds (ps := ["self"]) fun _ _ _ _ _ _ us hl => match us, hl with | [_], _ => rfl
  have F_Library_gaps := fun_mk (st := s_Library_gaps) l_Library_gaps c_Library_gaps k_Library_gaps
  have b_Library_gaps := F_Library_gaps.binds (ps := ["self"]) fun _ _ _ _ _ _ us hl => match us, hl with | [_], _ => rfl
  have F_Library_is_closed := fun_mk (st := s_Library_is_closed) l_Library_is_closed c_Library_is_closed k_Library_is_closed
  have b_Library_is_closed := F_Library_is_closed.binds (ps := ["self"]) fun _ _ _ _ _ _ us hl => match us, hl with | [_], _ => rfl
  have F_Library__held_by := fun_mk (st := s_Library__held_by) l_Library__held_by c_Library__held_by k_Library__held_by
  have b_Library__held_by := F_Library__held_by.binds (ps := ["self", "mark"]) fun _ _ _ _ _ _ us hl => match us, hl with | [_, _], _ => rfl
  have F_ThingError___init__ := fun_mk (st := s_ThingError___init__) l_ThingError___init__ c_ThingError___init__ k_ThingError___init__
  have b_ThingError___init__ := F_ThingError___init__.binds (ps := ["self", "reason"]) fun _ _ _ _ _ _ us hl => match us, hl with | [_, _], _ => rfl
  refine ⟨PySem.W.fnOf "law" "law" (defArgs s_law) (defBody s_law) (defScope s_law) .none kV_law dc_law pm_law an_law cd_law ct_law, fun s v => .of_eq rfl, fun base _ _ => ?_⟩
  have T : Txt l.prog w K mg base := { b_abs := PySem.W.mg_none_of X G z_abs, b_enumerate := PySem.W.mg_none_of X G z_enumerate, b_int := PySem.W.mg_none_of X G z_int, b_isinstance := PySem.W.mg_none_of X G z_isinstance, b_len := PySem.W.mg_none_of X G z_len, b_list := PySem.W.mg_none_of X G z_list, b_range := PySem.W.mg_none_of X G z_range, b_tuple := PySem.W.mg_none_of X G z_tuple, b_zip := PySem.W.mg_none_of X G z_zip, c_PRIME := ⟨t_PRIME, PySem.W.mg_of X G v_PRIME⟩, c_BEACON := ⟨t_BEACON, PySem.W.mg_of X G v_BEACON⟩, c_DOCUMENT := ⟨t_DOCUMENT, PySem.W.mg_of X G v_DOCUMENT⟩, c_HEAD := ⟨t_HEAD, PySem.W.mg_of X G v_HEAD⟩, c_RENEWAL := ⟨t_RENEWAL, PySem.W.mg_of X G v_RENEWAL⟩, c_NODE := ⟨t_NODE, PySem.W.mg_of X G v_NODE⟩, c_CITE := ⟨t_CITE, PySem.W.mg_of X G v_CITE⟩, c_BACK := ⟨t_BACK, PySem.W.mg_of X G v_BACK⟩, c_ENTRY := ⟨t_ENTRY, PySem.W.mg_of X G v_ENTRY⟩, E_SealError := E_SealError, mg_SealError := PySem.W.mg_of X G aE_SealError, eb_SealError := ⟨eX_SealError, eH_SealError, eT_SealError⟩, E_ThingError := E_ThingError, mg_ThingError := PySem.W.mg_of X G aE_ThingError, eb_ThingError := ⟨eX_ThingError, eH_ThingError, eT_ThingError⟩, nf_ThingError_reason := eN_ThingError_reason, ec_ThingError := ⟨⟨⟨nm_ThingError, q_ThingError, N_ThingError, bs_ThingError, _, sn_ThingError, sub_ThingError, ab_ThingError, col_ThingError, dd_ThingError, m0_ThingError, m1_ThingError, m2_ThingError, m3_ThingError, m5_ThingError, eL_ThingError, rfl⟩, eS_ThingError, eX_ThingError, eT_ThingError, eK_ThingError⟩, ⟨eG_ThingError, eA_ThingError, eX_ThingError, eH_ThingError⟩, (by obtain ⟨cd, hc, _⟩ := PySem.W.any_some eH_ThingError; rw [hc]; rfl), eC_ThingError, eget, etk, eM_ThingError⟩, i_ThingError := ⟨_, _, a_ThingError___init__, i_ThingError___init__, F_ThingError___init__, b_ThingError___init__⟩, up_ThingError_ThingError := eU_ThingError_ThingError, up_ThingError_SealError := eU_ThingError_SealError, d_digest := ⟨_, _, F_digest, PySem.W.mg_of X G a_digest, b_digest⟩, d__mixed := ⟨_, _, F__mixed, PySem.W.mg_of X G a__mixed, b__mixed⟩, d_digest_of := ⟨_, _, F_digest_of, PySem.W.mg_of X G a_digest_of, b_digest_of⟩, d_is_thing := ⟨_, _, F_is_thing, PySem.W.mg_of X G a_is_thing, b_is_thing⟩, d__is_document := ⟨_, _, F__is_document, PySem.W.mg_of X G a__is_document, b__is_document⟩, d__is_head := ⟨_, _, F__is_head, PySem.W.mg_of X G a__is_head, b__is_head⟩, d_kind_of := ⟨_, _, F_kind_of, PySem.W.mg_of X G a_kind_of, b_kind_of⟩, d__back_count := ⟨_, _, F__back_count, PySem.W.mg_of X G a__back_count, b__back_count⟩, d__greatest_step := ⟨_, _, F__greatest_step, PySem.W.mg_of X G a__greatest_step, b__greatest_step⟩, d__first_count := ⟨_, _, F__first_count, PySem.W.mg_of X G a__first_count, b__first_count⟩, d_root_of := ⟨_, _, F_root_of, PySem.W.mg_of X G a_root_of, b_root_of⟩, d__root_and_nodes := ⟨_, _, F__root_and_nodes, PySem.W.mg_of X G a__root_and_nodes, b__root_and_nodes⟩, d_way_of := ⟨_, _, F_way_of, PySem.W.mg_of X G a_way_of, b_way_of⟩, d_turns := ⟨_, _, F_turns, PySem.W.mg_of X G a_turns, b_turns⟩, d__nodes_up := ⟨_, _, F__nodes_up, PySem.W.mg_of X G a__nodes_up, b__nodes_up⟩, d_clash_of_ways := ⟨_, _, F_clash_of_ways, PySem.W.mg_of X G a_clash_of_ways, b_clash_of_ways⟩, d_clash_of_entries := ⟨_, _, F_clash_of_entries, PySem.W.mg_of X G a_clash_of_entries, b_clash_of_entries⟩, d__first_difference := ⟨_, _, F__first_difference, PySem.W.mg_of X G a__first_difference, b__first_difference⟩, d_listed := ⟨_, _, F_listed, PySem.W.mg_of X G a_listed, b_listed⟩, d_rows_of := ⟨_, _, F_rows_of, PySem.W.mg_of X G a_rows_of, b_rows_of⟩, d_trace := ⟨_, _, F_trace, PySem.W.mg_of X G a_trace, b_trace⟩, d__clash_at := ⟨_, _, F__clash_at, PySem.W.mg_of X G a__clash_at, b__clash_at⟩, d__clash_in_tree := ⟨_, _, F__clash_in_tree, PySem.W.mg_of X G a__clash_in_tree, b__clash_in_tree⟩, d__are_entries := ⟨_, _, F__are_entries, PySem.W.mg_of X G a__are_entries, b__are_entries⟩, d__law_cell := ⟨_, _, F__law_cell, PySem.W.mg_of X G a__law_cell, b__law_cell⟩, d__law_row := ⟨_, _, F__law_row, PySem.W.mg_of X G a__law_row, b__law_row⟩, d__law_draw := ⟨_, _, F__law_draw, PySem.W.mg_of X G a__law_draw, b__law_draw⟩, d__law_digest := ⟨_, _, F__law_digest, PySem.W.mg_of X G a__law_digest, b__law_digest⟩, d__law_number := ⟨_, _, F__law_number, PySem.W.mg_of X G a__law_number, b__law_number⟩, d__law_mixing := ⟨_, _, F__law_mixing, PySem.W.mg_of X G a__law_mixing, b__law_mixing⟩, d__law_backs := ⟨_, _, F__law_backs, PySem.W.mg_of X G a__law_backs, b__law_backs⟩, d__law_half := ⟨_, _, F__law_half, PySem.W.mg_of X G a__law_half, b__law_half⟩, d__law_root := ⟨_, _, F__law_root, PySem.W.mg_of X G a__law_root, b__law_root⟩, d__law_way := ⟨_, _, F__law_way, PySem.W.mg_of X G a__law_way, b__law_way⟩, d__law_new_head := ⟨_, _, F__law_new_head, PySem.W.mg_of X G a__law_new_head, b__law_new_head⟩, d__law_new_thing := ⟨_, _, F__law_new_thing, PySem.W.mg_of X G a__law_new_thing, b__law_new_thing⟩, d__law_places := ⟨_, _, F__law_places, PySem.W.mg_of X G a__law_places, b__law_places⟩, d__law_fits_back := ⟨_, _, F__law_fits_back, PySem.W.mg_of X G a__law_fits_back, b__law_fits_back⟩, d__law_ahead := ⟨_, _, F__law_ahead, PySem.W.mg_of X G a__law_ahead, b__law_ahead⟩, d__law_walk := ⟨_, _, F__law_walk, PySem.W.mg_of X G a__law_walk, b__law_walk⟩, d__law_small := ⟨_, _, F__law_small, PySem.W.mg_of X G a__law_small, b__law_small⟩, d__law_made_world := ⟨_, _, F__law_made_world, PySem.W.mg_of X G a__law_made_world, b__law_made_world⟩, d__law_closed := ⟨_, _, F__law_closed, PySem.W.mg_of X G a__law_closed, b__law_closed⟩, d__law_trace_ok := ⟨_, _, F__law_trace_ok, PySem.W.mg_of X G a__law_trace_ok, b__law_trace_ok⟩, d__law_put_all := ⟨_, _, F__law_put_all, PySem.W.mg_of X G a__law_put_all, b__law_put_all⟩, C_Mixing := C_Mixing, cl_Mixing := ⟨pg_Mixing, hd_Mixing, po_Mixing, sa_Mixing⟩, mg_Mixing := PySem.W.mg_of X G aC_Mixing, na_Mixing_bound := n_Mixing_bound, na_Mixing_factor := n_Mixing_factor, mk_Mixing := ⟨_, _, ⟨mk_Mixing, a_Mixing___init__, i_Mixing___init__, kc_Mixing⟩, F_Mixing___init__, b_Mixing___init__⟩, C_Paper := C_Paper, cl_Paper := ⟨pg_Paper, hd_Paper, po_Paper, sa_Paper⟩, mg_Paper := PySem.W.mg_of X G aC_Paper, na_Paper_first := n_Paper_first, na_Paper_steps := n_Paper_steps, mk_Paper := ⟨_, _, ⟨mk_Paper, a_Paper___init__, i_Paper___init__, kc_Paper⟩, F_Paper___init__, b_Paper___init__⟩, C_Library := C_Library, cl_Library := ⟨pg_Library, hd_Library, po_Library, sa_Library⟩, mg_Library := PySem.W.mg_of X G aC_Library, na_Library__entries := n_Library__entries, na_Library__rows := n_Library__rows, na_Library_mixing := n_Library_mixing, mk_Library := ⟨_, _, ⟨mk_Library, a_Library___init__, i_Library___init__, kc_Library⟩, F_Library___init__, b_Library___init__⟩, m_Library_put := ⟨_, _, ⟨a_Library_put, i_Library_put, k_Library_put⟩, F_Library_put, b_Library_put⟩, m_Library_row_of := ⟨_, _, ⟨a_Library_row_of, i_Library_row_of, k_Library_row_of⟩, F_Library_row_of, b_Library_row_of⟩, m_Library_entries_of := ⟨_, _, ⟨a_Library_entries_of, i_Library_entries_of, k_Library_entries_of⟩, F_Library_entries_of, b_Library_entries_of⟩, m_Library_rows := ⟨_, _, ⟨a_Library_rows, i_Library_rows, k_Library_rows⟩, F_Library_rows, b_Library_rows⟩, m_Library_gaps := ⟨_, _, ⟨a_Library_gaps, i_Library_gaps, k_Library_gaps⟩, F_Library_gaps, b_Library_gaps⟩, m_Library_is_closed := ⟨_, _, ⟨a_Library_is_closed, i_Library_is_closed, k_Library_is_closed⟩, F_Library_is_closed, b_Library_is_closed⟩, m_Library__held_by := ⟨_, _, ⟨a_Library__held_by, i_Library__held_by, k_Library__held_by⟩, F_Library__held_by, b_Library__held_by⟩ }
  exact fn_law T F_law
theorem walk {l : PySem.W.OpenLaw} {q : Program} {loose : List Str} {XP : (Str → Option Value) → Heap → Prop} {YP : World → Heap → Prop} {d : DefRec} {K : Params → PySem.W.Frag} (hn : l.most = some 63) (hdf : d.params.defaults = []) (hY : ∀ (w : World) (h : Heap), YP w h → (K w.params).In h)
    (F : ∀ (w : World) (mg : Str → Option Value) (fa : Addr) (h : Heap), (K w.params).In h → h.Ns mainGlobals mg → mg d.name = some (.ref fa) →
      ∃ fd : FuncData, (∀ (s : Shared) (u : Value), BindsTo s fd ⟨[u], []⟩ [("script", u)]) ∧ ∀ base : Heap, (K w.params).In base → base.Ns mainGlobals mg → FnOk l.prog w (K w.params) mg base CX0 30 fa fd ["script"] (sp_law (K w.params))) :
    PySem.W.WalkO q loose XP YP l.row.toRowW d [] (fun f vs => PySem.call f vs) :=
  L2.walk_of (n := 63) (k := 30) (x := "script") (CX := fun _ => CX0) (sp := fun w => sp_law (K w.params)) hn (by decide) hdf ⟨rfl, by decide, by decide⟩ hY F (fun _ _ a ns hl _ hS => ⟨a, ns, rfl, hS, hl, fun _ => rfl⟩) fun _ _ _ _ _ z => z
end Law
open PySem PySem.W PyProof.Rows in
set_option maxRecDepth 100000 in
set_option maxHeartbeats 0 in
theorem PySem.Challenge.cw_sealround_k81_whole_later_things_holds : PySem.Challenge.rw_sealround_k81_whole_later_things.Holds := by
  w_on; o_law; k_head; (case hw => w_witness2)
  k_fill
  refine Law.walk (l := PySem.Challenge.rw_sealround_k81_whole_later_things) rfl rfl (fun w h Y => PySem.W.kIn_of Y) ?F
  case F =>
    intro w mg fa h KX G hmg
    refine' Law.all_mk KX G hmg ?aE_SealError ?aE_ThingError ?eX_SealError ?eH_SealError ?eT_SealError ?eX_ThingError ?eH_ThingError ?eT_ThingError ?eN_ThingError_reason ?eL_ThingError ?eS_ThingError ?eK_ThingError ?eG_ThingError ?eA_ThingError ?eC_ThingError ?eM_ThingError ?eU_ThingError_ThingError ?eU_ThingError_SealError ?eget ?etk ?aC_Mixing ?aC_Paper ?aC_Library ?a_digest ?l_digest ?c_digest ?k_digest ?a__mixed ?l__mixed ?c__mixed ?k__mixed ?a_digest_of ?l_digest_of ?c_digest_of ?k_digest_of ?a_is_thing ?l_is_thing ?c_is_thing ?k_is_thing ?a__is_document ?l__is_document ?c__is_document ?k__is_document ?a__is_head ?l__is_head ?c__is_head ?k__is_head ?a_kind_of ?l_kind_of ?c_kind_of ?k_kind_of ?a__back_count ?l__back_count ?c__back_count ?k__back_count ?a__greatest_step ?l__greatest_step ?c__greatest_step ?k__greatest_step ?a__first_count ?l__first_count ?c__first_count ?k__first_count ?a_root_of ?l_root_of ?c_root_of ?k_root_of ?a__root_and_nodes ?l__root_and_nodes ?c__root_and_nodes ?k__root_and_nodes ?a_way_of ?l_way_of ?c_way_of ?k_way_of ?a_turns ?l_turns ?c_turns ?k_turns ?a__nodes_up ?l__nodes_up ?c__nodes_up ?k__nodes_up ?a_clash_of_ways ?l_clash_of_ways ?c_clash_of_ways ?k_clash_of_ways ?a_clash_of_entries ?l_clash_of_entries ?c_clash_of_entries ?k_clash_of_entries ?a__first_difference ?l__first_difference ?c__first_difference ?k__first_difference ?a_listed ?l_listed ?c_listed ?k_listed ?a_rows_of ?l_rows_of ?c_rows_of ?k_rows_of ?a_trace ?l_trace ?c_trace ?k_trace ?a__clash_at ?l__clash_at ?c__clash_at ?k__clash_at ?a__clash_in_tree ?l__clash_in_tree ?c__clash_in_tree ?k__clash_in_tree ?a__are_entries ?l__are_entries ?c__are_entries ?k__are_entries ?a__law_cell ?l__law_cell ?c__law_cell ?k__law_cell ?a__law_row ?l__law_row ?c__law_row ?k__law_row ?a__law_draw ?l__law_draw ?c__law_draw ?k__law_draw ?a__law_digest ?l__law_digest ?c__law_digest ?k__law_digest ?a__law_number ?l__law_number ?c__law_number ?k__law_number ?a__law_mixing ?l__law_mixing ?c__law_mixing ?k__law_mixing ?a__law_backs ?l__law_backs ?c__law_backs ?k__law_backs ?a__law_half ?l__law_half ?c__law_half ?k__law_half ?a__law_root ?l__law_root ?c__law_root ?k__law_root ?a__law_way ?l__law_way ?c__law_way ?k__law_way ?a__law_new_head ?l__law_new_head ?c__law_new_head ?k__law_new_head ?a__law_new_thing ?l__law_new_thing ?c__law_new_thing ?k__law_new_thing ?a__law_places ?l__law_places ?c__law_places ?k__law_places ?a__law_fits_back ?l__law_fits_back ?c__law_fits_back ?k__law_fits_back ?a__law_ahead ?l__law_ahead ?c__law_ahead ?k__law_ahead ?a__law_walk ?l__law_walk ?c__law_walk ?k__law_walk ?a__law_small ?l__law_small ?c__law_small ?k__law_small ?a__law_made_world ?l__law_made_world ?c__law_made_world ?k__law_made_world ?a__law_closed ?l__law_closed ?c__law_closed ?k__law_closed ?a__law_trace_ok ?l__law_trace_ok ?c__law_trace_ok ?k__law_trace_ok ?a__law_put_all ?l__law_put_all ?c__law_put_all ?k__law_put_all ?a_law ?l_law ?c_law ?k_law ?a_Mixing___init__ ?i_Mixing___init__ ?l_Mixing___init__ ?c_Mixing___init__ ?k_Mixing___init__ ?a_Paper___init__ ?i_Paper___init__ ?l_Paper___init__ ?c_Paper___init__ ?k_Paper___init__ ?a_Library___init__ ?i_Library___init__ ?l_Library___init__ ?c_Library___init__ ?k_Library___init__ ?a_Library_put ?i_Library_put ?l_Library_put ?c_Library_put ?k_Library_put ?a_Library_row_of ?i_Library_row_of ?l_Library_row_of ?c_Library_row_of ?k_Library_row_of ?a_Library_entries_of ?i_Library_entries_of ?l_Library_entries_of ?c_Library_entries_of ?k_Library_entries_of ?a_Library_rows ?i_Library_rows ?l_Library_rows ?c_Library_rows ?k_Library_rows ?a_Library_gaps ?i_Library_gaps ?l_Library_gaps ?c_Library_gaps ?k_Library_gaps ?a_Library_is_closed ?i_Library_is_closed ?l_Library_is_closed ?c_Library_is_closed ?k_Library_is_closed ?a_Library__held_by ?i_Library__held_by ?l_Library__held_by ?c_Library__held_by ?k_Library__held_by ?a_ThingError___init__ ?i_ThingError___init__ ?l_ThingError___init__ ?c_ThingError___init__ ?k_ThingError___init__ ?pg_Mixing ?hd_Mixing ?po_Mixing ?sa_Mixing ?mk_Mixing ?kc_Mixing ?n_Mixing_bound ?n_Mixing_factor ?pg_Paper ?hd_Paper ?po_Paper ?sa_Paper ?mk_Paper ?kc_Paper ?n_Paper_first ?n_Paper_steps ?pg_Library ?hd_Library ?po_Library ?sa_Library ?mk_Library ?kc_Library ?n_Library__entries ?n_Library__rows ?n_Library_mixing ?z_abs ?z_enumerate ?z_int ?z_isinstance ?z_len ?z_list ?z_range ?z_tuple ?z_zip ?v_PRIME ?v_BEACON ?v_DOCUMENT ?v_HEAD ?v_RENEWAL ?v_NODE ?v_CITE ?v_BACK ?v_ENTRY
    (case aE_SealError => k_is)
    (case aE_ThingError => k_is)
    (case eX_SealError => k_is)
    (case eH_SealError => k_is)
    (case eT_SealError => k_is)
    (case eX_ThingError => k_is)
    (case eH_ThingError => k_is)
    (case eT_ThingError => k_is)
    (case eN_ThingError_reason => k_is)
    (case eL_ThingError => k_is)
    (case eS_ThingError => k_is)
    (case eK_ThingError => k_is)
    (case eG_ThingError => k_is)
    (case eA_ThingError => k_is)
    (case eC_ThingError => k_is)
    (case eM_ThingError => k_is)
    (case eU_ThingError_ThingError => first | rfl | k_is)
    (case eU_ThingError_SealError => first | rfl | k_is)
    (case eget => k_is)
    (case etk => k_is)
    (case aC_Mixing => k_is)
    (case aC_Paper => k_is)
    (case aC_Library => k_is)
    (case a_digest => k_is)
    (case l_digest => k_is)
    (case c_digest => k_is)
    (case k_digest => k_is)
    (case a__mixed => k_is)
    (case l__mixed => k_is)
    (case c__mixed => k_is)
    (case k__mixed => k_is)
    (case a_digest_of => k_is)
    (case l_digest_of => k_is)
    (case c_digest_of => k_is)
    (case k_digest_of => k_is)
    (case a_is_thing => k_is)
    (case l_is_thing => k_is)
    (case c_is_thing => k_is)
    (case k_is_thing => k_is)
    (case a__is_document => k_is)
    (case l__is_document => k_is)
    (case c__is_document => k_is)
    (case k__is_document => k_is)
    (case a__is_head => k_is)
    (case l__is_head => k_is)
    (case c__is_head => k_is)
    (case k__is_head => k_is)
    (case a_kind_of => k_is)
    (case l_kind_of => k_is)
    (case c_kind_of => k_is)
    (case k_kind_of => k_is)
    (case a__back_count => k_is)
    (case l__back_count => k_is)
    (case c__back_count => k_is)
    (case k__back_count => k_is)
    (case a__greatest_step => k_is)
    (case l__greatest_step => k_is)
    (case c__greatest_step => k_is)
    (case k__greatest_step => k_is)
    (case a__first_count => k_is)
    (case l__first_count => k_is)
    (case c__first_count => k_is)
    (case k__first_count => k_is)
    (case a_root_of => k_is)
    (case l_root_of => k_is)
    (case c_root_of => k_is)
    (case k_root_of => k_is)
    (case a__root_and_nodes => k_is)
    (case l__root_and_nodes => k_is)
    (case c__root_and_nodes => k_is)
    (case k__root_and_nodes => k_is)
    (case a_way_of => k_is)
    (case l_way_of => k_is)
    (case c_way_of => k_is)
    (case k_way_of => k_is)
    (case a_turns => k_is)
    (case l_turns => k_is)
    (case c_turns => k_is)
    (case k_turns => k_is)
    (case a__nodes_up => k_is)
    (case l__nodes_up => k_is)
    (case c__nodes_up => k_is)
    (case k__nodes_up => k_is)
    (case a_clash_of_ways => k_is)
    (case l_clash_of_ways => k_is)
    (case c_clash_of_ways => k_is)
    (case k_clash_of_ways => k_is)
    (case a_clash_of_entries => k_is)
    (case l_clash_of_entries => k_is)
    (case c_clash_of_entries => k_is)
    (case k_clash_of_entries => k_is)
    (case a__first_difference => k_is)
    (case l__first_difference => k_is)
    (case c__first_difference => k_is)
    (case k__first_difference => k_is)
    (case a_listed => k_is)
    (case l_listed => k_is)
    (case c_listed => k_is)
    (case k_listed => k_is)
    (case a_rows_of => k_is)
    (case l_rows_of => k_is)
    (case c_rows_of => k_is)
    (case k_rows_of => k_is)
    (case a_trace => k_is)
    (case l_trace => k_is)
    (case c_trace => k_is)
    (case k_trace => k_is)
    (case a__clash_at => k_is)
    (case l__clash_at => k_is)
    (case c__clash_at => k_is)
    (case k__clash_at => k_is)
    (case a__clash_in_tree => k_is)
    (case l__clash_in_tree => k_is)
    (case c__clash_in_tree => k_is)
    (case k__clash_in_tree => k_is)
    (case a__are_entries => k_is)
    (case l__are_entries => k_is)
    (case c__are_entries => k_is)
    (case k__are_entries => k_is)
    (case a__law_cell => k_is)
    (case l__law_cell => k_is)
    (case c__law_cell => k_is)
    (case k__law_cell => k_is)
    (case a__law_row => k_is)
    (case l__law_row => k_is)
    (case c__law_row => k_is)
    (case k__law_row => k_is)
    (case a__law_draw => k_is)
    (case l__law_draw => k_is)
    (case c__law_draw => k_is)
    (case k__law_draw => k_is)
    (case a__law_digest => k_is)
    (case l__law_digest => k_is)
    (case c__law_digest => k_is)
    (case k__law_digest => k_is)
    (case a__law_number => k_is)
    (case l__law_number => k_is)
    (case c__law_number => k_is)
    (case k__law_number => k_is)
    (case a__law_mixing => k_is)
    (case l__law_mixing => k_is)
    (case c__law_mixing => k_is)
    (case k__law_mixing => k_is)
    (case a__law_backs => k_is)
    (case l__law_backs => k_is)
    (case c__law_backs => k_is)
    (case k__law_backs => k_is)
    (case a__law_half => k_is)
    (case l__law_half => k_is)
    (case c__law_half => k_is)
    (case k__law_half => k_is)
    (case a__law_root => k_is)
    (case l__law_root => k_is)
    (case c__law_root => k_is)
    (case k__law_root => k_is)
    (case a__law_way => k_is)
    (case l__law_way => k_is)
    (case c__law_way => k_is)
    (case k__law_way => k_is)
    (case a__law_new_head => k_is)
    (case l__law_new_head => k_is)
    (case c__law_new_head => k_is)
    (case k__law_new_head => k_is)
    (case a__law_new_thing => k_is)
    (case l__law_new_thing => k_is)
    (case c__law_new_thing => k_is)
    (case k__law_new_thing => k_is)
    (case a__law_places => k_is)
    (case l__law_places => k_is)
    (case c__law_places => k_is)
    (case k__law_places => k_is)
    (case a__law_fits_back => k_is)
    (case l__law_fits_back => k_is)
    (case c__law_fits_back => k_is)
    (case k__law_fits_back => k_is)
    (case a__law_ahead => k_is)
    (case l__law_ahead => k_is)
    (case c__law_ahead => k_is)
    (case k__law_ahead => k_is)
    (case a__law_walk => k_is)
    (case l__law_walk => k_is)
    (case c__law_walk => k_is)
    (case k__law_walk => k_is)
    (case a__law_small => k_is)
    (case l__law_small => k_is)
    (case c__law_small => k_is)
    (case k__law_small => k_is)
    (case a__law_made_world => k_is)
    (case l__law_made_world => k_is)
    (case c__law_made_world => k_is)
    (case k__law_made_world => k_is)
    (case a__law_closed => k_is)
    (case l__law_closed => k_is)
    (case c__law_closed => k_is)
    (case k__law_closed => k_is)
    (case a__law_trace_ok => k_is)
    (case l__law_trace_ok => k_is)
    (case c__law_trace_ok => k_is)
    (case k__law_trace_ok => k_is)
    (case a__law_put_all => k_is)
    (case l__law_put_all => k_is)
    (case c__law_put_all => k_is)
    (case k__law_put_all => k_is)
    (case a_law => k_is)
    (case l_law => k_is)
    (case c_law => k_is)
    (case k_law => k_is)
    (case a_Mixing___init__ => k_is)
    (case i_Mixing___init__ => k_is)
    (case l_Mixing___init__ => k_is)
    (case c_Mixing___init__ => k_is)
    (case k_Mixing___init__ => k_is)
    (case a_Paper___init__ => k_is)
    (case i_Paper___init__ => k_is)
    (case l_Paper___init__ => k_is)
    (case c_Paper___init__ => k_is)
    (case k_Paper___init__ => k_is)
    (case a_Library___init__ => k_is)
    (case i_Library___init__ => k_is)
    (case l_Library___init__ => k_is)
    (case c_Library___init__ => k_is)
    (case k_Library___init__ => k_is)
    (case a_Library_put => k_is)
    (case i_Library_put => k_is)
    (case l_Library_put => k_is)
    (case c_Library_put => k_is)
    (case k_Library_put => k_is)
    (case a_Library_row_of => k_is)
    (case i_Library_row_of => k_is)
    (case l_Library_row_of => k_is)
    (case c_Library_row_of => k_is)
    (case k_Library_row_of => k_is)
    (case a_Library_entries_of => k_is)
    (case i_Library_entries_of => k_is)
    (case l_Library_entries_of => k_is)
    (case c_Library_entries_of => k_is)
    (case k_Library_entries_of => k_is)
    (case a_Library_rows => k_is)
    (case i_Library_rows => k_is)
    (case l_Library_rows => k_is)
    (case c_Library_rows => k_is)
    (case k_Library_rows => k_is)
    (case a_Library_gaps => k_is)
    (case i_Library_gaps => k_is)
    (case l_Library_gaps => k_is)
    (case c_Library_gaps => k_is)
    (case k_Library_gaps => k_is)
    (case a_Library_is_closed => k_is)
    (case i_Library_is_closed => k_is)
    (case l_Library_is_closed => k_is)
    (case c_Library_is_closed => k_is)
    (case k_Library_is_closed => k_is)
    (case a_Library__held_by => k_is)
    (case i_Library__held_by => k_is)
    (case l_Library__held_by => k_is)
    (case c_Library__held_by => k_is)
    (case k_Library__held_by => k_is)
    (case a_ThingError___init__ => k_is)
    (case i_ThingError___init__ => k_is)
    (case l_ThingError___init__ => k_is)
    (case c_ThingError___init__ => k_is)
    (case k_ThingError___init__ => k_is)
    (case pg_Mixing => k_is)
    (case hd_Mixing => k_is)
    (case po_Mixing => k_is)
    (case sa_Mixing => k_is)
    (case mk_Mixing => k_is)
    (case kc_Mixing => k_is)
    (case n_Mixing_bound => k_is)
    (case n_Mixing_factor => k_is)
    (case pg_Paper => k_is)
    (case hd_Paper => k_is)
    (case po_Paper => k_is)
    (case sa_Paper => k_is)
    (case mk_Paper => k_is)
    (case kc_Paper => k_is)
    (case n_Paper_first => k_is)
    (case n_Paper_steps => k_is)
    (case pg_Library => k_is)
    (case hd_Library => k_is)
    (case po_Library => k_is)
    (case sa_Library => k_is)
    (case mk_Library => k_is)
    (case kc_Library => k_is)
    (case n_Library__entries => k_is)
    (case n_Library__rows => k_is)
    (case n_Library_mixing => k_is)
    (case z_abs => k_is)
    (case z_enumerate => k_is)
    (case z_int => k_is)
    (case z_isinstance => k_is)
    (case z_len => k_is)
    (case z_list => k_is)
    (case z_range => k_is)
    (case z_tuple => k_is)
    (case z_zip => k_is)
    (case v_PRIME => k_is)
    (case v_BEACON => k_is)
    (case v_DOCUMENT => k_is)
    (case v_HEAD => k_is)
    (case v_RENEWAL => k_is)
    (case v_NODE => k_is)
    (case v_CITE => k_is)
    (case v_BACK => k_is)
    (case v_ENTRY => k_is)
