import PyProof.Rows.All
import Wide.All
import OpenK.AllK
import Wide.FinOn
import HandS.ForMost
import HandS.ForExc
import HandS.TryMany
import HandS.ExcIs
import HandS.IsInst
import HandS.Wide
import HandS.EndBits
import HandS.StrMore
import HandS.Evl
import PySem.Challenge.RW_formroads_k00_names_and_lines
set_option Elab.async false
set_option linter.all false
set_option maxRecDepth 100000
set_option autoImplicit false
set_option maxHeartbeats 4000000
namespace My
open PySem PySem.Spec PyProof.Rows L2
/-! ### built-in names -/
theorem b0_len : bootBuiltins "len" = some (.builtin "len") := PySem.boot_len
theorem b0_all : bootBuiltins "all" = some (.builtin "all") := by decide +kernel
theorem b0_any : bootBuiltins "any" = some (.builtin "any") := by decide +kernel
theorem b0_sum : bootBuiltins "sum" = some (.builtin "sum") := by decide +kernel
theorem b0_sorted : bootBuiltins "sorted" = some (.builtin "sorted") := by decide +kernel
theorem b0_isinstance : bootBuiltins "isinstance" = some (.builtin "isinstance") := by decide +kernel
theorem b0_int : bootBuiltins "int" = some (.type "int") := by decide +kernel
theorem b0_str : bootBuiltins "str" = some (.type "str") := by decide +kernel
theorem b0_bool : bootBuiltins "bool" = some (.type "bool") := by decide +kernel
theorem b0_list : bootBuiltins "list" = some (.type "list") := by decide +kernel
theorem b0_tuple : bootBuiltins "tuple" = some (.type "tuple") := by decide +kernel
theorem b0_dict : bootBuiltins "dict" = some (.type "dict") := by decide +kernel
theorem b0_ValueError : bootBuiltins "ValueError" = some (.type "ValueError") := by decide +kernel
/-! ### rules that were lacking -/
/-- a * b of ints of together less than 134,217,000 bits -/
def CMulB (i j : Int) : Prop := i.natAbs.log2 + j.natAbs.log2 < 134217000
theorem CMulB.ok {i j : Int} (h : CMulB i j) : IntMulOk i j := by
  have b : ∀ x : Int, Builtin.Int.intBits x ≤ x.natAbs.log2 + 1 := fun x => by
    unfold Builtin.Int.intBits
    split <;> omega
  have h1 := b i
  have h2 := b j
  have h3 : i.natAbs.log2 + j.natAbs.log2 < 134217000 := h
  have e : bitsLine = 134217728 := by decide
  unfold IntMulOk
  intro z
  rw [Bool.and_eq_true] at z
  have z2 := z.2
  unfold Builtin.Int.intTooBig at z2
  have z3 := of_decide_eq_true z2
  rw [e] at z3
  omega
section
variable {X : Cx}
theorem op_mulB : OpR X (binaryOp .Mult) (rI CMulB fun i j => .int (i * j)) := opI fun _ _ _ _ _ _ _ hc q => mul_int q hc.ok
/-- text * int -/
theorem op_mul_str : OpR X (binaryOp .Mult) (fun x y H Q => ∃ (z : Str) (k : Int), x = .str z ∧ y = .int k ∧ 0 ≤ k ∧ k ≤ 1000 ∧ z.length ≤ 1000 ∧ Q (.str (Txt.mul z k)) H) := by
  intro pins s σ H x y v u Q I rx ry h
  obtain ⟨z, k, rfl, rfl, h0, h1, h2, q⟩ := h
  obtain ⟨t, rfl⟩ := rx
  obtain ⟨t', rfl⟩ := ry
  exact PySem.SB.mul (PyProof.Rows.mulOk_of 1000 1000 h2 (by omega) (by omega) (by decide) (by decide)) (fun t' tk => ⟨.str (Txt.mul z k), H, I.tok _, ⟨_, rfl⟩, q⟩)
end
/-! ### defs of the top -/
/-- the def of that name keeps the promise -/
def FOk (P : Program) (w : World) (K : PySem.W.Frag) (mg : Str → Option Value) (base : Heap) (CX : CXT) (x : Str) (ps : List Str) (k : Nat) (sp : Sp) : Prop :=
  ∃ (f : Addr) (fd : FuncData), mg x = some (.ref f) ∧ PySem.W.keepIn K (.ref f) = true ∧ (∃ oc od osl, K.lookup f = some ⟨oc, od, .func fd, osl⟩) ∧ Binds K fd ps [] ∧ FnOk P w K mg base CX k f fd ps sp
/-- the def stands at the top -/
structure Fn (K : PySem.W.Frag) (mg : Str → Option Value) (x : Str) (st : Stmt) (ps : List Str) : Prop where
  ex : ∃ (f : Addr) (fd : FuncData), mg x = some (.ref f) ∧ Fun K x x st f fd ∧ Binds K fd ps []
section
variable {P : Program} {w : World} {K : PySem.W.Frag} {mg : Str → Option Value} {base : Heap}
theorem _root_.L2.Fun.at' {x qual : Str} {st : Stmt} {f : Addr} {fd : FuncData} (F : Fun K x qual st f fd) : ∃ oc od osl, K.lookup f = some ⟨oc, od, .func fd, osl⟩ := by
  obtain ⟨oc, od, kV, doc, pm, an, cdv, ct, osl, e, lk, _⟩ := F.ex
  exact ⟨oc, od, osl, lk⟩
theorem Fn.ok {x : Str} {st : Stmt} {N ps : List Str} {k : Nat} {sp : Sp} (F : Fn K mg x st ps) (S : FnScope N ps (defScope st)) (len : ∀ vs H Q E, sp vs H Q E → vs.length = ps.length)
    (hbody : ∀ (f : Addr) (cdv : Value) (A : Around) (outer : List Env) (s : Shared) (H : Hp) (vs : List V) (Q : VK) (E : XK), Room k (A.deeper (envOfC x (defScope st) s.heap.objs.size f cdv)) → sp vs H Q E →
      ∃ t, PSs (cxOf CX0 P w K mg base N x (defScope st) f cdv A outer s H E).nox (defBody st) t ∧ t { nx := fun _ H' => Q .non H', rt := Q } (start N vs) H) : FOk P w K mg base CX0 x ps (k + 1) sp := by
  obtain ⟨f, fd, g, F1, b⟩ := F.ex
  exact ⟨f, fd, g, F1.kp, F1.at', b, F1.ok S len (hbody f)⟩
theorem Fn.okX {x : Str} {st : Stmt} {N ps : List Str} {k : Nat} {sp : Sp} (F : Fn K mg x st ps) (S : FnScope N ps (defScope st)) (len : ∀ vs H Q E, sp vs H Q E → vs.length = ps.length)
    (hbody : ∀ (f : Addr) (cdv : Value) (A : Around) (outer : List Env) (s : Shared) (H : Hp) (vs : List V) (Q : VK) (E : XK), Room k (A.deeper (envOfC x (defScope st) s.heap.objs.size f cdv)) → sp vs H Q E →
      ∃ t, PSs (cxOf (L2.CX P w) P w K mg base N x (defScope st) f cdv A outer s H E) (defBody st) t ∧ t { nx := fun _ H' => Q .non H', rt := Q } (start N vs) H) : FOk P w K mg base (L2.CX P w) x ps (k + 1) sp := by
  obtain ⟨f, fd, g, F1, b⟩ := F.ex
  exact ⟨f, fd, g, F1.kp, F1.at', b, F1.okX S len (hbody f)⟩
theorem fn_at {h : Heap} (X : K.In h) (G : h.Ns mainGlobals mg) {x : Str} {st : Stmt} {ps : List Str} {f : Addr} {oc : Value} {od an : Option Addr} {osl : Array (Option Value)} {kV doc pm cdv ct : Value}
    (a : PySem.W.nsIn K mainGlobals x = some (some (.ref f)))
    (l : K.lookup f = some ⟨oc, od, .func (PySem.W.fnOf x x (defArgs st) (defBody st) (defScope st) .none kV doc pm an cdv ct), osl⟩)
    (c : PySem.W.codeIn K cdv x = true) (k : PySem.W.keepIn K (.ref f) = true)
    (b : ∀ (kV doc pm : Value) (an : Option Addr) (cdv ct : Value) (us : List Value), us.length = ps.length → bindArgs (PySem.W.fnOf x x (defArgs st) (defBody st) (defScope st) .none kV doc pm an cdv ct) ⟨us, []⟩ = pure (ps.zip us)) : Fn K mg x st ps := by
  have F := fun_mk l c k
  exact ⟨⟨f, _, PySem.W.mg_of X G a, F, F.binds b⟩⟩
end
section
variable {X : Cx} {k j : Nat} {ps : List Str} {sp : Sp} {x : Str} {p pos : Pos} {e : Expr} {es : List Expr} {t : TA}
/-- f(..), f a def that raises nothing -/
theorem pcall (F : FOk X.prog X.w X.K X.mg X.base CX0 x ps j sp) (hr : Room k X.A) (ha : PA X (e :: es) t) (hj : j ≤ k := by decide) (hg : Gl X x := by rfl) (hdb : (x == ("__debug__" : Str)) = false := by decide)
    (he : starEach (e :: es) X.env = (false, eval e X.env) :: starEach es X.env := by rfl) (hpl : (backTo pos (starEach es X.env)).any (·.1) = false := by rfl) : PE X (.Call (.Name x p) (e :: es) [] pos) (tCall sp [] E0 t) := by
  obtain ⟨f, fd, g, kp, _, b, F⟩ := F
  exact pe_call F (hr.mono hj) hg g kp b .nil pass0 ha hdb he hpl
/-- f(..), f a def that may raise, where W is wished of what is raised -/
theorem pcallX {W : WX} (F : FOk X.prog X.w X.K X.mg X.base (L2.CX X.prog X.w) x ps j sp) (hr : Room k X.A) (tk : Takes X W) (ha : PA X (e :: es) t) (hj : j ≤ k := by decide) (hg : Gl X x := by rfl) (hdb : (x == ("__debug__" : Str)) = false := by decide)
    (he : starEach (e :: es) X.env = (false, eval e X.env) :: starEach es X.env := by rfl) (hpl : (backTo pos (starEach es X.env)).any (·.1) = false := by rfl) : PE X (.Call (.Name x p) (e :: es) [] pos) (tCallS sp (WE W) t) := by
  obtain ⟨f, fd, g, kp, _, b, F⟩ := F
  exact pe_callS F (hr.mono hj) hg g kp b (fun σ => passAt tk σ) ha hdb he hpl
end
/-! ### heaps -/
/-- all but a is as it was -/
def SameBut (a : Addr) (H H' : Hp) : Prop := ∀ b o, b ≠ a → H b = some o → H' b = some o
theorem SameBut.refl (a : Addr) (H : Hp) : SameBut a H H := fun _ _ _ h => h
theorem SameBut.trans {a : Addr} {H H1 H2 : Hp} (x : SameBut a H H1) (y : SameBut a H1 H2) : SameBut a H H2 := fun b o n h => y b o n (x b o n h)
theorem SameBut.of {a : Addr} {H H' : Hp} (x : Same H H') : SameBut a H H' := fun b o _ h => x b o h
theorem SameBut.upd {a : Addr} {H : Hp} {o : HO} : SameBut a H (upd H a o) := fun b u n h => by rw [upd_ne n]; exact h
theorem Same.new {H : Hp} {p : Addr} {o : HO} (h : H p = none) : Same H (upd H p o) := fun b x e => by
  rw [upd_ne (ne_of_none e h)]
  exact e
theorem sql_ne {K : PySem.W.Frag} {a : Addr} {H H' : Hp} {p : Addr} {xs : List V} (n : p ≠ a) (x : SameBut a H H') (h : SqL K H p xs) : SqL K H' p xs := by
  rcases h with (h | ⟨o, h⟩) | h
  · exact .inl (.inl (x _ _ n h))
  · exact .inl (.inr ⟨o, x _ _ n h⟩)
  · exact .inr h
theorem sqt_ne {K : PySem.W.Frag} {a : Addr} {H H' : Hp} {p : Addr} {xs : List V} (n : p ≠ a) (x : SameBut a H H') (h : SqT K H p xs) : SqT K H' p xs := by
  rcases h with (h | ⟨o, h⟩) | h
  · exact .inl (.inl (x _ _ n h))
  · exact .inl (.inr ⟨o, x _ _ n h⟩)
  · exact .inr h
theorem sqt_same {K : PySem.W.Frag} {H H' : Hp} {a : Addr} {xs : List V} (e : Same H H') (h : SqT K H a xs) : SqT K H' a xs := by
  rcases h with (h | ⟨o, h⟩) | h
  · exact .inl (.inl (e _ _ h))
  · exact .inl (.inr ⟨o, e _ _ h⟩)
  · exact .inr h
theorem SqL.of' {K : PySem.W.Frag} {H : Hp} {a : Addr} {xs : List V} (h : H a = some (.lst xs)) : SqL K H a xs := .inl (.inl h)
theorem le1000 {n : Nat} (h : n ≤ 1000) : n ≤ sizeLine := Nat.le_trans h (by decide)
theorem le100k {n : Nat} (h : n ≤ 100000) : n ≤ sizeLine := Nat.le_trans h (by decide)
theorem lt100k {n : Nat} (h : n < 100000) : n < sizeLine := Nat.lt_of_lt_of_le h (by decide)
end My
namespace My
open PySem PySem.Spec PyProof.Rows L2
/-! ### loops by what has been gone through -/
theorem take_snoc {α : Type} {xs : List α} {i : Nat} {x : α} (h : xs[i]? = some x) : xs.take (i + 1) = xs.take i ++ [x] := by
  rw [List.take_add_one, h]
  rfl
theorem split_at' {α : Type} {xs : List α} {i : Nat} {x : α} (h : xs[i]? = some x) : xs = xs.take i ++ x :: xs.drop (i + 1) := by
  have hi : i < xs.length := by
    rcases Nat.lt_or_ge i xs.length with q | q
    · exact q
    · rw [List.getElem?_eq_none q] at h
      cases h
  have e : xs[i] = x := by
    rw [List.getElem?_eq_getElem hi] at h
    exact Option.some.inj h
  rw [← e, ← List.drop_eq_getElem_cons hi, List.take_append_drop]
section
variable {K : PySem.W.Frag} {a : Addr} {xs : List V} {g : TG} {tb : TS} {D : Ends} {σ : L2.St} {H : Hp}
/-- for x in a list: Pv of what has been gone through -/
theorem forL (Pv : List V → L2.St → Hp → Prop) (h0 : Pv [] σ H) (hl : ∀ pre σ H, Pv pre σ H → SqL K H a xs)
    (hs : ∀ pre x post σ H, xs = pre ++ x :: post → Pv pre σ H → g x σ H fun σ2 H2 => tb { D with nx := Pv (pre ++ [x]), ct := Pv (pre ++ [x]), bk := D.nx } σ2 H2) (hd : ∀ σ H, Pv xs σ H → D.nx σ H) :
    ∃ W : Nat → Nat → L2.St → Hp → Prop, (∃ m, W 0 m σ H) ∧ ∀ i m σ H, W i m σ H →
      ((Itl K a).stop i H ∧ D.nx σ H) ∨ ((Itl K a).go i H ∧ ∃ N : L2.St → Hp → Prop, (∀ σ' H', N σ' H' → ∃ m', m' < m ∧ W (i + 1) m' σ' H') ∧ ∀ x H', (Itl K a).yld i H x H' → g x σ H' fun σ2 H2 => tb { D with nx := N, ct := N, bk := D.nx } σ2 H2) :=
  for_list (K := K) (a := a) (xs := xs) (fun i => Pv (xs.take i)) h0 (fun i σ H _ p => hl _ σ H p) (fun i x σ H e p => by
    have := hs (xs.take i) x (xs.drop (i + 1)) σ H (split_at' e) p
    rw [← take_snoc e] at this
    exact this) (fun σ H p => hd σ H (by rw [List.take_length] at p; exact p))
theorem forT (Pv : List V → L2.St → Hp → Prop) (h0 : Pv [] σ H) (hl : ∀ pre σ H, Pv pre σ H → SqT K H a xs)
    (hs : ∀ pre x post σ H, xs = pre ++ x :: post → Pv pre σ H → g x σ H fun σ2 H2 => tb { D with nx := Pv (pre ++ [x]), ct := Pv (pre ++ [x]), bk := D.nx } σ2 H2) (hd : ∀ σ H, Pv xs σ H → D.nx σ H) :
    ∃ W : Nat → Nat → L2.St → Hp → Prop, (∃ m, W 0 m σ H) ∧ ∀ i m σ H, W i m σ H →
      ((Itt K a).stop i H ∧ D.nx σ H) ∨ ((Itt K a).go i H ∧ ∃ N : L2.St → Hp → Prop, (∀ σ' H', N σ' H' → ∃ m', m' < m ∧ W (i + 1) m' σ' H') ∧ ∀ x H', (Itt K a).yld i H x H' → g x σ H' fun σ2 H2 => tb { D with nx := N, ct := N, bk := D.nx } σ2 H2) :=
  for_tup (K := K) (a := a) (xs := xs) (fun i => Pv (xs.take i)) h0 (fun i σ H _ p => hl _ σ H p) (fun i x σ H e p => by
    have := hs (xs.take i) x (xs.drop (i + 1)) σ H (split_at' e) p
    rw [← take_snoc e] at this
    exact this) (fun σ H p => hd σ H (by rw [List.take_length] at p; exact p))
/-- for c in a text -/
theorem forS {z : Str} (Pv : List Nat → L2.St → Hp → Prop) (h0 : Pv [] σ H)
    (hs : ∀ pre c post σ H, z.cps.toList = pre ++ c :: post → Pv pre σ H → g (.str ⟨#[c]⟩) σ H fun σ2 H2 => tb { D with nx := Pv (pre ++ [c]), ct := Pv (pre ++ [c]), bk := D.nx } σ2 H2) (hd : ∀ σ H, Pv z.cps.toList σ H → D.nx σ H) :
    ∃ W : Nat → Nat → L2.St → Hp → Prop, (∃ m, W 0 m σ H) ∧ ∀ i m σ H, W i m σ H →
      ((Its z).stop i H ∧ D.nx σ H) ∨ ((Its z).go i H ∧ ∃ N : L2.St → Hp → Prop, (∀ σ' H', N σ' H' → ∃ m', m' < m ∧ W (i + 1) m' σ' H') ∧ ∀ x H', (Its z).yld i H x H' → g x σ H' fun σ2 H2 => tb { D with nx := N, ct := N, bk := D.nx } σ2 H2) := by
  refine ⟨fun i m σ H => m = z.cps.size - i ∧ i ≤ z.cps.size ∧ Pv (z.cps.toList.take i) σ H, ⟨z.cps.size, by simp, Nat.zero_le _, h0⟩, ?_⟩
  rintro i m σ H ⟨rfl, hi, p⟩
  by_cases hlt : i < z.cps.size
  · refine .inr ⟨hlt, Pv (z.cps.toList.take (i + 1)), fun σ' H' p' => ⟨z.cps.size - (i + 1), by omega, rfl, hlt, p'⟩, fun x H' y => ?_⟩
    obtain ⟨rfl, c, hc, rfl⟩ := y
    have hc' : z.cps.toList[i]? = some c := by rw [← hc]; simp
    have := hs _ c _ σ H' (split_at' hc') p
    rw [← take_snoc hc'] at this
    exact this
  · have e : i = z.cps.size := by omega
    subst e
    refine .inl ⟨Nat.le_refl _, hd σ H ?_⟩
    have e2 : z.cps.toList.take z.cps.size = z.cps.toList := List.take_of_length_le (by simp)
    rw [e2] at p
    exact p
end
section
variable {K : PySem.W.Frag} {a : Addr} {xs : List V} {g : TG} {tt : TT} {te : TE} {vs : List Nat} {σ : L2.St} {H1 : Hp} {D : Addr} {Qd : Hp → Prop}
/-- [.. for x in a list ..]: Pv of what has been gone through -/
theorem lcL (Pv : List V → Hp → Prop) (h0 : Pv [] (upd H1 D (.lst []))) (hl : ∀ pre H, Pv pre H → SqL K H a xs)
    (hs : ∀ pre x post H, xs = pre ++ x :: post → Pv pre H → g x (wipe σ vs) H fun σ2 H2 => wipe σ2 vs = wipe σ vs ∧ tt σ2 H2 fun b H3 =>
      if b = true then te σ2 H3 fun y H4 => ∃ acc, H4 D = some (.lst acc) ∧ acc.length < sizeLine ∧ Pv (pre ++ [x]) (upd H4 D (.lst (acc ++ [y]))) else Pv (pre ++ [x]) H3) (hd : ∀ H, Pv xs H → Qd H) :
    ∃ W : Nat → Nat → Hp → Prop, (∃ m, W 0 m (upd H1 D (.lst []))) ∧ ∀ i m H, W i m H →
      ((Itl K a).stop i H ∧ Qd H) ∨ ((Itl K a).go i H ∧ ∃ Nx : Hp → Prop, (∀ H', Nx H' → ∃ m', m' < m ∧ W (i + 1) m' H') ∧ ∀ x H', (Itl K a).yld i H x H' → g x (wipe σ vs) H' fun σ2 H2 => wipe σ2 vs = wipe σ vs ∧ tt σ2 H2 fun b H3 =>
        if b = true then te σ2 H3 fun y H4 => ∃ acc, H4 D = some (.lst acc) ∧ acc.length < sizeLine ∧ Nx (upd H4 D (.lst (acc ++ [y]))) else Nx H3) :=
  lc_list (K := K) (a := a) (xs := xs) (fun i => Pv (xs.take i)) h0 (fun i H _ p => hl _ H p) (fun i x H e p => by
    have := hs (xs.take i) x (xs.drop (i + 1)) H (split_at' e) p
    rw [← take_snoc e] at this
    exact this) (fun H p => hd H (by rw [List.take_length] at p; exact p))
theorem lcT (Pv : List V → Hp → Prop) (h0 : Pv [] (upd H1 D (.lst []))) (hl : ∀ pre H, Pv pre H → SqT K H a xs)
    (hs : ∀ pre x post H, xs = pre ++ x :: post → Pv pre H → g x (wipe σ vs) H fun σ2 H2 => wipe σ2 vs = wipe σ vs ∧ tt σ2 H2 fun b H3 =>
      if b = true then te σ2 H3 fun y H4 => ∃ acc, H4 D = some (.lst acc) ∧ acc.length < sizeLine ∧ Pv (pre ++ [x]) (upd H4 D (.lst (acc ++ [y]))) else Pv (pre ++ [x]) H3) (hd : ∀ H, Pv xs H → Qd H) :
    ∃ W : Nat → Nat → Hp → Prop, (∃ m, W 0 m (upd H1 D (.lst []))) ∧ ∀ i m H, W i m H →
      ((Itt K a).stop i H ∧ Qd H) ∨ ((Itt K a).go i H ∧ ∃ Nx : Hp → Prop, (∀ H', Nx H' → ∃ m', m' < m ∧ W (i + 1) m' H') ∧ ∀ x H', (Itt K a).yld i H x H' → g x (wipe σ vs) H' fun σ2 H2 => wipe σ2 vs = wipe σ vs ∧ tt σ2 H2 fun b H3 =>
        if b = true then te σ2 H3 fun y H4 => ∃ acc, H4 D = some (.lst acc) ∧ acc.length < sizeLine ∧ Nx (upd H4 D (.lst (acc ++ [y]))) else Nx H3) :=
  lc_tup (K := K) (a := a) (xs := xs) (fun i => Pv (xs.take i)) h0 (fun i H _ p => hl _ H p) (fun i x H e p => by
    have := hs (xs.take i) x (xs.drop (i + 1)) H (split_at' e) p
    rw [← take_snoc e] at this
    exact this) (fun H p => hd H (by rw [List.take_length] at p; exact p))
theorem lcS {z : Str} (Pv : List Nat → Hp → Prop) (h0 : Pv [] (upd H1 D (.lst [])))
    (hs : ∀ pre c post H, z.cps.toList = pre ++ c :: post → Pv pre H → g (.str ⟨#[c]⟩) (wipe σ vs) H fun σ2 H2 => wipe σ2 vs = wipe σ vs ∧ tt σ2 H2 fun b H3 =>
      if b = true then te σ2 H3 fun y H4 => ∃ acc, H4 D = some (.lst acc) ∧ acc.length < sizeLine ∧ Pv (pre ++ [c]) (upd H4 D (.lst (acc ++ [y]))) else Pv (pre ++ [c]) H3) (hd : ∀ H, Pv z.cps.toList H → Qd H) :
    ∃ W : Nat → Nat → Hp → Prop, (∃ m, W 0 m (upd H1 D (.lst []))) ∧ ∀ i m H, W i m H →
      ((Its z).stop i H ∧ Qd H) ∨ ((Its z).go i H ∧ ∃ Nx : Hp → Prop, (∀ H', Nx H' → ∃ m', m' < m ∧ W (i + 1) m' H') ∧ ∀ x H', (Its z).yld i H x H' → g x (wipe σ vs) H' fun σ2 H2 => wipe σ2 vs = wipe σ vs ∧ tt σ2 H2 fun b H3 =>
        if b = true then te σ2 H3 fun y H4 => ∃ acc, H4 D = some (.lst acc) ∧ acc.length < sizeLine ∧ Nx (upd H4 D (.lst (acc ++ [y]))) else Nx H3) := by
  refine ⟨fun i m H => m = z.cps.size - i ∧ i ≤ z.cps.size ∧ Pv (z.cps.toList.take i) H, ⟨z.cps.size, by simp, Nat.zero_le _, h0⟩, ?_⟩
  rintro i m H ⟨rfl, hi, p⟩
  by_cases hlt : i < z.cps.size
  · refine .inr ⟨hlt, Pv (z.cps.toList.take (i + 1)), fun H' p' => ⟨z.cps.size - (i + 1), by omega, rfl, hlt, p'⟩, fun x H' y => ?_⟩
    obtain ⟨rfl, c, hc, rfl⟩ := y
    have hc' : z.cps.toList[i]? = some c := by rw [← hc]; simp
    have := hs _ c _ H' (split_at' hc') p
    rw [← take_snoc hc'] at this
    exact this
  · have e : i = z.cps.size := by omega
    subst e
    refine .inl ⟨Nat.le_refl _, hd H ?_⟩
    have e2 : z.cps.toList.take z.cps.size = z.cps.toList := List.take_of_length_le (by simp)
    rw [e2] at p
    exact p
end
end My
namespace My
section
variable {c A B : Prop} [Decidable c]
theorem dT (h : c) (q : A) : if decide c = true then A else B := by rw [if_pos (decide_eq_true h)]; exact q
theorem dF (h : ¬ c) (q : B) : if decide c = true then A else B := by rw [decide_eq_false h, if_neg Bool.false_ne_true]; exact q
theorem nT (h : ¬ c) (q : A) : if (!decide c) = true then A else B := by rw [decide_eq_false h]; exact q
theorem nF (h : c) (q : B) : if (!decide c) = true then A else B := by rw [decide_eq_true h]; exact q
theorem d2 (h1 : c → A) (h2 : ¬ c → B) : if decide c = true then A else B := by
  by_cases h : c
  · exact dT h (h1 h)
  · exact dF h (h2 h)
theorem n2 (h1 : ¬ c → A) (h2 : c → B) : if (!decide c) = true then A else B := by
  by_cases h : c
  · exact nF h (h2 h)
  · exact nT h (h1 h)
theorem b2 {b : Bool} {A B : Prop} (h1 : b = true → A) (h2 : b = false → B) : if b = true then A else B := by
  cases b with
  | true => exact h1 rfl
  | false => exact h2 rfl
theorem bT {b : Bool} {A B : Prop} (h : b = true) (q : A) : if b = true then A else B := by rw [h]; exact q
theorem bF {b : Bool} {A B : Prop} (h : b = false) (q : B) : if b = true then A else B := by rw [h]; exact q
end
end My
namespace My
open PySem PySem.Spec PyProof.Rows L2 Evl
section
variable {K : PySem.W.Frag} {H : Hp} {x y : V}
theorem rv_isN : RV (fun x y H Q => y = .non ∧ Q (.bl (decide (x = .non))) H) x .non H (.bl (decide (x = .non))) := fun H1 _ _ q => ⟨rfl, q H1 (Evl.Ex.refl H1)⟩
theorem rv_notN : RV (fun x y H Q => y = .non ∧ Q (.bl (!decide (x = .non))) H) x .non H (.bl (!decide (x = .non))) := fun H1 _ _ q => ⟨rfl, q H1 (Evl.Ex.refl H1)⟩
theorem rv_inStr {i j : Str} : RV (fun x y H Q => ∃ i j, x = .str i ∧ y = .str j ∧ Q (.bl (!(Builtin.Str.occurrences j i 0 j.length 1).isEmpty)) H) (.str i) (.str j) H (.bl (!(Builtin.Str.occurrences j i 0 j.length 1).isEmpty)) := fun H1 _ _ q => ⟨i, j, rfl, rfl, q H1 (Evl.Ex.refl H1)⟩
theorem rv_addS {i j : Str} (h : i.length + j.length ≤ sizeLine) : RV (fun x y H Q => ∃ i j, x = .str i ∧ y = .str j ∧ i.length + j.length ≤ sizeLine ∧ Q (.str (i ++ j)) H) (.str i) (.str j) H (.str (i ++ j)) := fun H1 _ _ q => ⟨i, j, rfl, rfl, h, q H1 (Evl.Ex.refl H1)⟩
end
end My
set_option Elab.async false
set_option linter.all false
set_option maxRecDepth 100000
set_option autoImplicit false
set_option maxHeartbeats 4000000
namespace My
open PySem PySem.Spec PyProof.Rows L2
def topS (i : Nat) : Stmt := PySem.Challenge.pw_formroads_k00_names_and_lines.main.body.getD i (.Pass ⟨0, 0, 0, 0⟩)
abbrev s_is_name : Stmt := topS 7
abbrev s_check_name : Stmt := topS 8
abbrev s_read_number : Stmt := topS 9
abbrev s_split_words : Stmt := topS 10
abbrev s__law_draws : Stmt := topS 12
abbrev s__law_draw : Stmt := topS 13
abbrev s__law_pick : Stmt := topS 14
abbrev s__law_same : Stmt := topS 15
abbrev s__law_text : Stmt := topS 16
abbrev s__law_is_name : Stmt := topS 17
abbrev s__law_number : Stmt := topS 18
abbrev s__law_checked : Stmt := topS 19
abbrev s__law_read : Stmt := topS 20
abbrev s__law_name_error : Stmt := topS 21
abbrev s__law_number_error : Stmt := topS 22
abbrev s__law_words_error : Stmt := topS 23
abbrev s__law_good_words : Stmt := topS 24
abbrev s_law : Stmt := topS 25
theorem sc__law_draws : FnScope ["_law_script", "_law_draws_here", "_law_cell", "_law_rest", "_law_k"] ["_law_script"] (defScope s__law_draws) := ⟨rfl, rfl, rfl, by decide +kernel, rfl, by decide +kernel, by decide +kernel⟩
theorem sc__law_draw : FnScope ["_law_draws_here", "_law_many"] ["_law_draws_here", "_law_many"] (defScope s__law_draw) := ⟨rfl, rfl, rfl, by decide +kernel, rfl, by decide +kernel, by decide +kernel⟩
theorem sc__law_pick : FnScope ["_law_draws_here", "_law_things"] ["_law_draws_here", "_law_things"] (defScope s__law_pick) := ⟨rfl, rfl, rfl, by decide +kernel, rfl, by decide +kernel, by decide +kernel⟩
/-- an own error class at C -/
structure ExcT (K : PySem.W.Frag) (mg : Str → Option Value) (x : Str) (C : Addr) : Prop where
  g : mg x = some (.ref C)
  ex : PySem.W.excIn K C [.type "ValueError", .type "Exception", .type "BaseException", .type "object"] "ValueError.__new__" = true
  kp : PySem.W.keepIn K (.ref C) = true
  sb : PySem.W.subIn K (.ref C) (.type "BaseException") = some true
  ty : PySem.W.typeIn K (.ref C) = some (.type "type")
/-- what the top has written -/
structure Txt (K : PySem.W.Frag) (mg : Str → Option Value) (cF cN cT : Addr) : Prop where
  e_F : ExcT K mg "FormroadsError" cF
  e_N : ExcT K mg "InvalidName" cN
  e_T : ExcT K mg "InvalidText" cT
  c_NF : PySem.W.exmOne K (.ref cN) (.ref cF) = some true
  c_TF : PySem.W.exmOne K (.ref cT) (.ref cF) = some true
  c_NN : PySem.W.exmOne K (.ref cN) (.ref cN) = some true
  c_TT : PySem.W.exmOne K (.ref cT) (.ref cT) = some true
  i_N : ExcC K cN
  i_T : ExcC K cT
  i_Nv : PySem.W.kitOne K (.ref cN) (.type "ValueError") = some true
  i_Tv : PySem.W.kitOne K (.ref cT) (.type "ValueError") = some true
  i_NT : PySem.W.kitOne K (.ref cN) (.ref cT) = some false
  i_TN : PySem.W.kitOne K (.ref cT) (.ref cN) = some false
  k_LONGEST : ∃ t, mg "_LONGEST_NAME" = some (.int 8 t)
  k_DIGITS : ∃ t, mg "_MOST_DIGITS" = some (.int 6 t)
  is_name : Fn K mg "is_name" s_is_name ["text"]
  check_name : Fn K mg "check_name" s_check_name ["text"]
  read_number : Fn K mg "read_number" s_read_number ["text"]
  split_words : Fn K mg "split_words" s_split_words ["line"]
  _law_text : Fn K mg "_law_text" s__law_text ["_law_draws_here"]
  _law_is_name : Fn K mg "_law_is_name" s__law_is_name ["_law_text_here"]
  _law_number : Fn K mg "_law_number" s__law_number ["_law_text_here"]
  _law_checked : Fn K mg "_law_checked" s__law_checked ["_law_text_here"]
  _law_read : Fn K mg "_law_read" s__law_read ["_law_text_here"]
  _law_name_error : Fn K mg "_law_name_error" s__law_name_error ["_law_text_here"]
  _law_number_error : Fn K mg "_law_number_error" s__law_number_error ["_law_text_here"]
  _law_words_error : Fn K mg "_law_words_error" s__law_words_error ["_law_text_here"]
  _law_good_words : Fn K mg "_law_good_words" s__law_good_words ["_law_words", "_law_text_here"]
  law : Fn K mg "law" s_law ["_law_script"]
  b_len : mg "len" = none
  b_int : mg "int" = none
  b_range : mg "range" = none
  b_isinstance : mg "isinstance" = none
  b_bool : mg "bool" = none
  b_str : mg "str" = none
  b_tuple : mg "tuple" = none
  b_list : mg "list" = none
  b_all : mg "all" = none
  b_ValueError : mg "ValueError" = none
  _law_same : Fn K mg "_law_same" s__law_same ["_law_actual", "_law_due"]
  _law_draws : Fn K mg "_law_draws" s__law_draws ["_law_script"]
  _law_draw : Fn K mg "_law_draw" s__law_draw ["_law_draws_here", "_law_many"]
  _law_pick : Fn K mg "_law_pick" s__law_pick ["_law_draws_here", "_law_things"]
section
variable {P : Program} {w : World} {K : PySem.W.Frag} {mg : Str → Option Value} {base : Heap} {cF cN cT : Addr}
/-- the draws that lie at a -/
abbrev Dr (H : Hp) (a : Addr) (ds : List Int) : Prop := H a = some (.lst (ds.map V.int))
def sp__law_draw : Sp := fun vs H Q _ => ∃ (a : Addr) (ds : List Int) (m : Int), vs = [.ref a, .int m] ∧ Dr H a ds ∧ 0 < m ∧ ds.length ≤ 100000 ∧
  ∀ (r : Int) (ds' : List Int) (H' : Hp), 0 ≤ r → r < m → ds'.length ≤ ds.length → SameBut a H H' → Dr H' a ds' → Q (.int r) H'
theorem ok__law_draw (T : Txt K mg cF cN cT) : FOk P w K mg base CX0 "_law_draw" ["_law_draws_here", "_law_many"] 1 sp__law_draw := by
  refine T._law_draw.ok sc__law_draw (fun vs H Q E h => ?_) (fun f cdv A outer s H vs Q E hr h => ?_)
  · obtain ⟨a, ds, m, rfl, _⟩ := h
    rfl
  · obtain ⟨a, ds, m, rfl, hd, hm, hl, q⟩ := h
    have nd := sc__law_draw.nd
    refine ⟨_, (pss_cons (ps_if (pt_cmpR op_eq (pe_callB call_len (by rfl) T.b_len b0_len (pa_cons (pv 0) pa_nil)) pe_int (nomark _))
        (pss_one (ps_ret pe_int))
        pss_nil)
      (pss_one (ps_ret (pe_op op_mod (pe_callTy call_int1 (by rfl) T.b_int b0_int (pa_cons (pe_bm0 PySem.F.plainAttrs_list PySem.F.slot_list_pop PySem.F.type_list_pop mt_pop (pv 0)) pa_nil)) (pv 1))))), ?_⟩
    refine ⟨.ref a, rfl, .ref a, ds.length, rfl, .inl ⟨_, SqL.of' hd, by simp⟩, rfl, _, rfl, ite2 (fun e => ?_) (fun e => ?_)⟩
    · exact q 0 ds H (Int.le_refl 0) hm (Nat.le_refl _) (SameBut.refl _ _) hd
    · have hne : ds ≠ [] := fun z => e (by rw [z]; rfl)
      obtain ⟨ds', x, rfl⟩ : ∃ ds' x, ds = ds' ++ [x] := ⟨ds.dropLast, ds.getLast hne, (List.dropLast_concat_getLast hne).symm⟩
      refine ⟨.ref a, rfl, .inl ⟨rfl, _, SqL.of' hd⟩, a, _, .int x, rfl, rfl, hd, ?_, .inl ⟨x, rfl, .int m, rfl, x, m, rfl, rfl, hm, ?_⟩⟩
      · simp
      · refine q (x % m) ds' _ (Int.emod_nonneg _ (by omega)) (Int.emod_lt_of_pos _ hm) (by simp) SameBut.upd ?_
        rw [List.map_append, List.map_singleton, List.dropLast_concat]
        exact upd_same
/-- what is picked from: a list or tuple, not a, or a text -/
def Things (K : PySem.W.Frag) (H : Hp) (a : Addr) (x : V) (items : List V) : Prop :=
  (∃ p, x = .ref p ∧ p ≠ a ∧ SqL K H p items) ∨ (∃ p, x = .ref p ∧ p ≠ a ∧ SqT K H p items) ∨ (∃ z : Str, x = .str z ∧ z.length ≤ 1000 ∧ items = z.cps.toList.map fun c => V.str ⟨#[c]⟩)
def sp__law_pick (K : PySem.W.Frag) : Sp := fun vs H Q _ => ∃ (a : Addr) (ds : List Int) (x : V) (items : List V), vs = [.ref a, x] ∧ Dr H a ds ∧ ds.length ≤ 100000 ∧ Things K H a x items ∧ items ≠ [] ∧
  ∀ (v : V) (ds' : List Int) (H' : Hp), v ∈ items → ds'.length ≤ ds.length → SameBut a H H' → Dr H' a ds' → Q v H'
theorem ok__law_pick (T : Txt K mg cF cN cT) : FOk P w K mg base CX0 "_law_pick" ["_law_draws_here", "_law_things"] 2 (sp__law_pick K) := by
  refine T._law_pick.ok sc__law_pick (fun vs H Q E h => ?_) (fun f cdv A outer s H vs Q E hr h => ?_)
  · obtain ⟨a, ds, x, items, rfl, _⟩ := h
    rfl
  · obtain ⟨a, ds, x, items, rfl, hd, hl, ht, hne, q⟩ := h
    have nd := sc__law_pick.nd
    refine ⟨_, (pss_one (ps_ret (pe_ix ix_seq (pv 1) (pcall (ok__law_draw T) hr (pa_cons (pv 0) (pa_cons (pe_callB call_len (by rfl) T.b_len b0_len (pa_cons (pv 1) pa_nil)) pa_nil))) (fun _ _ => rfl)))), ?_⟩
    have hpos : 0 < items.length := List.length_pos_iff.mpr hne
    have hv : ∀ r : Int, 0 ≤ r → r < (items.length : Int) → ∃ v, v ∈ items ∧ atI items r = some v := fun r h0 h1 => by
      have hr' : r.toNat < items.length := by omega
      refine ⟨items[r.toNat], List.getElem_mem hr', ?_⟩
      have := atI_nat (xs := items) (j := r.toNat) (List.getElem?_eq_getElem hr')
      rwa [Int.toNat_of_nonneg h0] at this
    rcases ht with ⟨p, rfl, np, hp⟩ | ⟨p, rfl, np, hp⟩ | ⟨z, rfl, hz, rfl⟩
    · refine ⟨.ref p, rfl, .ref a, rfl, .ref p, rfl, .ref p, items.length, rfl, .inl ⟨_, hp, rfl⟩, a, ds, items.length, rfl, hd, by omega, hl, fun r ds' H' h0 h1 h2 sm hd' => ?_⟩
      obtain ⟨v, hm, hat⟩ := hv r h0 h1
      exact .inl ⟨p, items, r, v, rfl, rfl, sql_ne np sm hp, hat, q v ds' H' hm h2 sm hd'⟩
    · refine ⟨.ref p, rfl, .ref a, rfl, .ref p, rfl, .ref p, items.length, rfl, .inr ⟨_, hp, rfl⟩, a, ds, items.length, rfl, hd, by omega, hl, fun r ds' H' h0 h1 h2 sm hd' => ?_⟩
      obtain ⟨v, hm, hat⟩ := hv r h0 h1
      refine .inr (.inl ⟨p, items, r, v, rfl, rfl, sqt_ne np sm hp, hat, q v ds' H' hm h2 sm hd'⟩)
    · have hlen : (z.cps.toList.map fun c => V.str ⟨#[c]⟩).length = z.length := by
        rw [List.length_map]
        rfl
      refine ⟨.str z, rfl, .ref a, rfl, .str z, rfl, .str z, z.length, rfl, ⟨le1000 hz, rfl⟩, a, ds, z.length, rfl, hd, by omega, hl, fun r ds' H' h0 h1 h2 sm hd' => ?_⟩
      have hr' : r.toNat < z.cps.toList.length := by
        show r.toNat < z.length
        omega
      refine .inr (.inr ⟨z, r, z.cps.toList[r.toNat], rfl, rfl, le1000 hz, ?_, q _ ds' H' ?_ h2 sm hd'⟩)
      · have := atI_nat (xs := z.cps.toList) (j := r.toNat) (List.getElem?_eq_getElem hr')
        rwa [Int.toNat_of_nonneg h0] at this
      · exact List.mem_map.mpr ⟨_, List.getElem_mem hr', rfl⟩
end
end My
set_option Elab.async false
set_option linter.all false
set_option maxRecDepth 100000
set_option autoImplicit false
set_option maxHeartbeats 4000000
namespace My
open PySem PySem.Spec PyProof.Rows L2
section
variable {P : Program} {w : World} {K : PySem.W.Frag} {mg : Str → Option Value} {base : Heap} {cF cN cT : Addr}
theorem cmul_bits {n m : Int} (h : Builtin.Int.intBits n ≤ 1048576) (hm : m.natAbs.log2 < 100) : CMulB n m := by
  have b : n.natAbs.log2 ≤ Builtin.Int.intBits n := by
    unfold Builtin.Int.intBits
    split
    · rename_i e
      rw [eq_of_beq e]
      exact Nat.zero_le _
    · omega
  unfold CMulB
  omega
theorem cmul_small {n m : Int} (h : n.natAbs < 2 ^ 40) (hm : m.natAbs.log2 < 100) : CMulB n m := by
  have b := PySem.Flt.log2_lt_of (show 0 < 40 by decide) h
  unfold CMulB
  omega
def sp__law_draws (K : PySem.W.Frag) : Sp := fun vs H Q _ => ∃ (a : Addr) (ns : List Int), vs = [.ref a] ∧ SqL K H a (ns.map V.int) ∧ ns.length ≤ 63 ∧ (∀ z ∈ ns, Builtin.Int.intBits z ≤ 1048576) ∧
  ∀ (p : Addr) (ds : List Int) (H' : Hp), H p = none → Same H H' → Dr H' p ds → ds.length ≤ 3780 → Q (.ref p) H'
theorem ok__law_draws (T : Txt K mg cF cN cT) : FOk P w K mg base CX0 "_law_draws" ["_law_script"] 1 (sp__law_draws K) := by
  refine T._law_draws.ok sc__law_draws (fun vs H Q E h => ?_) (fun f cdv A outer s H vs Q E hr h => ?_)
  · obtain ⟨a, ns, rfl, _⟩ := h
    rfl
  · obtain ⟨a, ns, rfl, hS, hlen, hb, q⟩ := h
    have nd := sc__law_draws.nd
    refine ⟨_, (pss_cons (ps_set (i := 1) nd rfl (Or.inl rfl) (pe_lst pa_nil))
      (pss_cons (ps_for PassesOwn.never rfl (pi_list (pv 0)) (pg_name (i := 2) nd rfl (Or.inl rfl))
        (pss_cons (ps_set (i := 3) nd rfl (Or.inl rfl) (pe_callTy call_int1 (by rfl) T.b_int b0_int (pa_cons (pv 2) pa_nil)))
        (pss_one (ps_if (pt_chain op_le op_lt pe_int (pv 3) pe_int)
          (pss_one (ps_expr (pe_bm PySem.F.plainAttrs_list PySem.F.slot_list_append PySem.F.type_list_append mt_append (pv 1) (pa_cons (pv 3) pa_nil))))
          (pss_one (ps_if (pt_cmpR op_ge (pv 3) (pe_op op_pow pe_int pe_int) (nomark _))
            (pss_one (ps_for PassesOwn.never rfl (pi_range1 (by rfl) T.b_range (pa_cons pe_int pa_nil)) (pg_name (i := 4) nd rfl (Or.inl rfl))
              (pss_one (ps_if (pt_cmpR op_gt (pv 3) pe_int (nomark _))
                (pss_cons (ps_expr (pe_bm PySem.F.plainAttrs_list PySem.F.slot_list_append PySem.F.type_list_append mt_append (pv 1) (pa_cons (pe_op op_mod (pe_callTy call_int1 (by rfl) T.b_int b0_int (pa_cons (pv 3) pa_nil)) pe_int) pa_nil)))
                (pss_one (ps_set (i := 3) nd rfl (Or.inl rfl) (pe_op op_fdiv (pv 3) pe_int))))
                pss_nil))))
            (pss_cons (ps_set (i := 3) nd rfl (Or.inl rfl) (pe_op op_mod (pe_callTy call_int1 (by rfl) T.b_int b0_int (pa_cons (pe_op op_mulB (pv 3) pe_int) pa_nil)) pe_int))
            (pss_one (ps_for PassesOwn.never rfl (pi_range1 (by rfl) T.b_range (pa_cons pe_int pa_nil)) (pg_name (i := 4) nd rfl (Or.inl rfl))
              (pss_cons (ps_set (i := 3) nd rfl (Or.inl rfl) (pe_op op_mod (pe_callTy call_int1 (by rfl) T.b_int b0_int (pa_cons (pe_op op_mulB (pv 3) pe_int) pa_nil)) pe_int))
              (pss_one (ps_expr (pe_bm PySem.F.plainAttrs_list PySem.F.slot_list_append PySem.F.type_list_append mt_append (pv 1) (pa_cons (pe_op op_mod (pe_callTy call_int1 (by rfl) T.b_int b0_int (pa_cons (pe_op op_fdiv (pv 3) pe_int) pa_nil)) pe_int) pa_nil))))))))))))))
      (pss_cons (ps_expr (pe_bm0 PySem.F.plainAttrs_list PySem.F.slot_list_reverse PySem.F.type_list_reverse mt_reverse (pv 1)))
      (pss_one (ps_ret (pv 1)))))), ?_⟩
    refine ⟨Nat.zero_le _, fun p np => ?_⟩
    -- what holds: the list at p grows, all else stays
    have step : ∀ (H1 : Hp) (ds : List Int) (x : Int), Same H H1 → Dr H1 p ds → Same H (upd H1 p (.lst (ds.map V.int ++ [.int x]))) ∧ Dr (upd H1 p (.lst (ds.map V.int ++ [.int x]))) p (ds ++ [x]) := fun H1 ds x sm hd =>
      ⟨fun b o e => by rw [upd_ne (ne_of_none e np)]; exact sm b o e, by show _ = some (HO.lst (List.map V.int (ds ++ [x]))); rw [List.map_append]; exact upd_same⟩
    have app : ∀ (H1 : Hp) (ds : List Int), Dr H1 p ds → SqL K H1 p (ds.map V.int) := fun H1 ds hd => SqL.of' hd
    refine ⟨.ref a, rfl, a, rfl, ⟨_, (Same.new np).seq hS⟩, forL (xs := ns.map V.int) (fun pre σ H1 => ∃ (ds : List Int) (y2 y3 y4 : Option V), σ = [some (.ref a), some (.ref p), y2, y3, y4] ∧ Same H H1 ∧ Dr H1 p ds ∧ ds.length ≤ 60 * pre.length)
      ⟨[], none, none, none, rfl, Same.new np, upd_same, Nat.zero_le _⟩ (fun pre σ H1 ⟨ds, y2, y3, y4, _, sm, _⟩ => sm.seq hS) (fun pre x post σ H1 e ⟨ds, y2, y3, y4, eσ, sm, hd, hl⟩ => ?_) (fun σ H1 ⟨ds, y2, y3, y4, eσ, sm, hd, hl⟩ => ?_)⟩
    · -- a turn
      subst eσ
      have hpre : pre.length < 63 := by
        have : (ns.map V.int).length = pre.length + (post.length + 1) := by rw [e, List.length_append, List.length_cons]
        rw [List.length_map] at this
        omega
      obtain ⟨n, hn, rfl⟩ : ∃ n ∈ ns, V.int n = x := List.mem_map.mp (by rw [e]; simp)
      have hbn := hb n hn
      rw [show (pre ++ [V.int n]).length = pre.length + 1 by simp]
      refine ⟨.int n, rfl, .inl ⟨n, rfl, ?_⟩⟩
      refine ⟨.int n, rfl, 0, n, rfl, rfl, _, rfl, ?_⟩
      by_cases c0 : (0 : Int) ≤ n ∧ n < 1000
      · refine dT c0.1 ⟨n, 1000, rfl, rfl, _, rfl, dT c0.2 ?_⟩
        obtain ⟨s1, d1⟩ := step H1 ds n sm hd
        exact ⟨.ref p, rfl, .inl ⟨rfl, _, app _ _ hd⟩, .int n, rfl, p, _, _, rfl, rfl, hd, lt100k (by rw [List.length_map]; omega), ds ++ [n], _, _, _, rfl, s1, d1, by simp; omega⟩
      · refine d2 (fun c1 => ⟨n, 1000, rfl, rfl, _, rfl, dF (fun z => c0 ⟨c1, z⟩) ?_⟩) (fun c1 => ⟨_, rfl, bF rfl ?_⟩)
        all_goals
          refine ⟨.int n, rfl, 10, 18, rfl, rfl, ⟨by decide, by decide, by decide⟩, n, _, rfl, rfl, _, rfl, ite2 (fun c2 => ?_) (fun c2 => ?_)⟩
          · -- by thousands
            refine ⟨60, rfl, by decide, by decide, for_range (lo := 0) (n := 60) (fun i σ H2 => ∃ (ds' : List Int) (r : Int) (y4' : Option V), σ = [some (.ref a), some (.ref p), some (.int n), some (.int r), y4'] ∧ Same H H2 ∧ Dr H2 p ds' ∧ ds'.length ≤ ds.length + i)
              ⟨ds, n, y4, rfl, sm, hd, Nat.le_refl _⟩ (fun i σ H2 hi ⟨ds', r, y4', eσ, sm2, hd2, hl2⟩ => ?_) (fun σ H2 ⟨ds', r, y4', eσ, sm2, hd2, hl2⟩ => ?_)⟩
            · subst eσ
              refine ⟨.int r, rfl, r, 0, rfl, rfl, _, rfl, ite2 (fun c3 => ?_) (fun c3 => ?_)⟩
              · obtain ⟨s1, d1⟩ := step H2 ds' (r % 1000) sm2 hd2
                refine ⟨.ref p, rfl, .inl ⟨rfl, _, app _ _ hd2⟩, .int r, rfl, .inl ⟨r, rfl, r, 1000, rfl, rfl, (by show (0 : Int) < 1000; decide), p, _, _, rfl, rfl, hd2, lt100k (by rw [List.length_map]; omega), ?_⟩⟩
                exact ⟨.int r, rfl, r, 1000, rfl, rfl, ⟨by decide, by decide⟩, ds' ++ [r % 1000], r / 1000, _, rfl, s1, d1, by simp; omega⟩
              · exact ⟨ds', r, _, rfl, sm2, hd2, by omega⟩
            · exact ⟨ds', _, _, _, eσ, sm2, hd2, by omega⟩
          · -- by a remainder
            refine ⟨.int n, rfl, n, 48271, rfl, rfl, cmul_bits hbn (by decide), .inl ⟨_, rfl, _, 2147483647, rfl, rfl, (by show (0 : Int) < 2147483647; decide), ?_⟩⟩
            have hr0a : 0 ≤ n * 48271 % 2147483647 ∧ n * 48271 % 2147483647 < 2147483647 := by omega
            refine ⟨4, rfl, by decide, by decide, for_range (lo := 0) (n := 4) (fun i σ H2 => ∃ (ds' : List Int) (r : Int) (y4' : Option V), σ = [some (.ref a), some (.ref p), some (.int n), some (.int r), y4'] ∧ Same H H2 ∧ Dr H2 p ds' ∧ ds'.length ≤ ds.length + i ∧ 0 ≤ r ∧ r < 2147483647)
              ⟨ds, n * 48271 % 2147483647, y4, rfl, sm, hd, Nat.le_refl _, hr0a.1, hr0a.2⟩ (fun i σ H2 hi ⟨ds', r, y4', eσ, sm2, hd2, hl2, h0, h1⟩ => ?_) (fun σ H2 ⟨ds', r, y4', eσ, sm2, hd2, hl2, h0, h1⟩ => ?_)⟩
            · subst eσ
              refine ⟨.int r, rfl, r, 69621, rfl, rfl, cmul_small (by omega) (by decide), .inl ⟨_, rfl, _, 2147483629, rfl, rfl, (by show (0 : Int) < 2147483629; decide), ?_⟩⟩
              have hr1 : 0 ≤ r * 69621 % 2147483629 ∧ r * 69621 % 2147483629 < 2147483629 := by omega
              obtain ⟨s1, d1⟩ := step H2 ds' ((r * 69621 % 2147483629) / 7 % 1000) sm2 hd2
              refine ⟨.ref p, rfl, .inl ⟨rfl, _, app _ _ hd2⟩, .int (r * 69621 % 2147483629), rfl, _, 7, rfl, rfl, ⟨by decide, by decide⟩, .inl ⟨_, rfl, _, 1000, rfl, rfl, (by show (0 : Int) < 1000; decide), p, _, _, rfl, rfl, hd2, lt100k (by rw [List.length_map]; omega), ?_⟩⟩
              exact ⟨ds' ++ [(r * 69621 % 2147483629) / 7 % 1000], r * 69621 % 2147483629, _, rfl, s1, d1, by simp; omega, by omega, by omega⟩
            · exact ⟨ds', _, _, _, eσ, sm2, hd2, by omega⟩
    · subst eσ
      refine ⟨.ref p, rfl, .inl ⟨rfl, _, app _ _ hd⟩, p, _, rfl, rfl, hd, .ref p, rfl, ?_⟩
      rw [List.length_map] at hl
      refine q p ds.reverse _ np (fun b o e => by rw [upd_ne (ne_of_none e np)]; exact sm b o e) ?_ (by rw [List.length_reverse]; omega)
      show _ = some (HO.lst (List.map V.int ds.reverse))
      rw [List.map_reverse]
      exact upd_same
end
end My
set_option Elab.async false
set_option linter.all false
set_option maxRecDepth 100000
set_option autoImplicit false
set_option maxHeartbeats 4000000
namespace My
open PySem PySem.Spec PyProof.Rows L2
/-! ### isinstance of plain values -/
def plain : V → Bool
  | .non | .bl _ | .int _ | .str _ => true
  | _ => false
def isBl : V → Bool
  | .bl _ => true
  | _ => false
def isInt : V → Bool
  | .int _ | .bl _ => true
  | _ => false
def isStr : V → Bool
  | .str _ => true
  | _ => false
theorem plain_ty {x : V} (h : plain x = true) : ∃ t : String, (∀ K H, TyX K H x (.type t)) ∧ kitB t "bool" = some (isBl x) ∧ kitB t "int" = some (isInt x) ∧ kitB t "str" = some (isStr x) ∧ kitB t "tuple" = some false ∧ kitB t "list" = some false := by
  cases x with
  | non => exact ⟨"NoneType", fun _ _ => .base .non, (show _ = some false by decide +kernel), (show _ = some false by decide +kernel), (show _ = some false by decide +kernel), by decide +kernel, by decide +kernel⟩
  | bl b => exact ⟨"bool", fun _ _ => .base (.bl b), (show _ = some true by decide +kernel), (show _ = some true by decide +kernel), (show _ = some false by decide +kernel), by decide +kernel, by decide +kernel⟩
  | int i => exact ⟨"int", fun _ _ => .base (.int i), (show _ = some false by decide +kernel), (show _ = some true by decide +kernel), (show _ = some false by decide +kernel), by decide +kernel, by decide +kernel⟩
  | str z => exact ⟨"str", fun _ _ => .base (.str z), (show _ = some false by decide +kernel), (show _ = some false by decide +kernel), (show _ = some true by decide +kernel), by decide +kernel, by decide +kernel⟩
  | _ => exact nomatch h
theorem ne_kind : ∀ {x y : V} {f : V → Bool}, f x ≠ f y → decide (x = y) = false := fun h => decide_eq_false fun e => h (by rw [e])
section
variable {P : Program} {w : World} {K : PySem.W.Frag} {mg : Str → Option Value} {base : Heap} {cF cN cT : Addr}
theorem sc__law_same : FnScope ["_law_actual", "_law_due", "_law_k"] ["_law_actual", "_law_due"] (defScope s__law_same) := ⟨rfl, rfl, rfl, by decide +kernel, rfl, by decide +kernel, by decide +kernel⟩
def sp__law_same : Sp := fun vs H Q _ => ∃ x y : V, vs = [x, y] ∧ plain x = true ∧ plain y = true ∧ Q (.bl (decide (x = y))) H
theorem ok__law_same (T : Txt K mg cF cN cT) (hself : FOk P w K mg base CX0 "_law_same" ["_law_actual", "_law_due"] 0 (fun _ _ _ _ => False)) : FOk P w K mg base CX0 "_law_same" ["_law_actual", "_law_due"] 1 sp__law_same := by
  refine T._law_same.ok sc__law_same (fun vs H Q E h => ?_) (fun f cdv A outer s H vs Q E hr h => ?_)
  · obtain ⟨x, y, rfl, _⟩ := h
    rfl
  · obtain ⟨x, y, rfl, hx, hy, q⟩ := h
    have nd := sc__law_same.nd
    refine ⟨_, (pss_cons (ps_if (PW.pt (pw_or (pt_val (pe_callB call_isi (by rfl) T.b_isinstance b0_isinstance (pa_cons (pv 1) (pa_cons (pe_bltn (v := .ty "bool") (by rfl) T.b_bool b0_bool rfl) pa_nil)))) (pw_or1 (pt_val (pe_callB call_isi (by rfl) T.b_isinstance b0_isinstance (pa_cons (pv 0) (pa_cons (pe_bltn (v := .ty "bool") (by rfl) T.b_bool b0_bool rfl) pa_nil)))))))
        (pss_one (ps_ret (pe_and (pe_callB call_isi (by rfl) T.b_isinstance b0_isinstance (pa_cons (pv 1) (pa_cons (pe_bltn (v := .ty "bool") (by rfl) T.b_bool b0_bool rfl) pa_nil))) (pe_and (pe_callB call_isi (by rfl) T.b_isinstance b0_isinstance (pa_cons (pv 0) (pa_cons (pe_bltn (v := .ty "bool") (by rfl) T.b_bool b0_bool rfl) pa_nil))) (pe_one (pe_cmpR op_eq (pv 0) (pv 1) (nomark _)))))))
        pss_nil)
      (pss_cons (ps_if (PW.pt (pw_or (pt_cmpR op_isN (pv 1) pe_non (nomark _)) (pw_or1 (pt_cmpR op_isN (pv 0) pe_non (nomark _)))))
        (pss_one (ps_ret (pe_and (pe_cmpR op_isN (pv 1) pe_non (nomark _)) (pe_one (pe_cmpR op_isN (pv 0) pe_non (nomark _))))))
        pss_nil)
      (pss_cons (ps_if (pt_val (pe_callB call_isi (by rfl) T.b_isinstance b0_isinstance (pa_cons (pv 1) (pa_cons (pe_bltn (v := .ty "int") (by rfl) T.b_int b0_int rfl) pa_nil))))
        (pss_one (ps_ret (pe_and (pe_callB call_isi (by rfl) T.b_isinstance b0_isinstance (pa_cons (pv 0) (pa_cons (pe_bltn (v := .ty "int") (by rfl) T.b_int b0_int rfl) pa_nil))) (pe_one (pe_cmpR op_eq (pv 0) (pv 1) (nomark _))))))
        pss_nil)
      (pss_cons (ps_if (pt_val (pe_callB call_isi (by rfl) T.b_isinstance b0_isinstance (pa_cons (pv 1) (pa_cons (pe_bltn (v := .ty "str") (by rfl) T.b_str b0_str rfl) pa_nil))))
        (pss_one (ps_ret (pe_and (pe_callB call_isi (by rfl) T.b_isinstance b0_isinstance (pa_cons (pv 0) (pa_cons (pe_bltn (v := .ty "str") (by rfl) T.b_str b0_str rfl) pa_nil))) (pe_one (pe_cmpR op_eq (pv 0) (pv 1) (nomark _))))))
        pss_nil)
      (pss_cons (ps_if (PW.pt (pw_and (pt_val (pe_callB call_isi (by rfl) T.b_isinstance b0_isinstance (pa_cons (pv 1) (pa_cons (pe_bltn (v := .ty "tuple") (by rfl) T.b_tuple b0_tuple rfl) pa_nil)))) (pw_and1 (pt_not (pt_val (pe_callB call_isi (by rfl) T.b_isinstance b0_isinstance (pa_cons (pv 0) (pa_cons (pe_bltn (v := .ty "tuple") (by rfl) T.b_tuple b0_tuple rfl) pa_nil))))))))
        (pss_one (ps_ret pe_bl))
        pss_nil)
      (pss_cons (ps_if (PW.pt (pw_and (pt_val (pe_callB call_isi (by rfl) T.b_isinstance b0_isinstance (pa_cons (pv 1) (pa_cons (pe_bltn (v := .ty "list") (by rfl) T.b_list b0_list rfl) pa_nil)))) (pw_and1 (pt_not (pt_val (pe_callB call_isi (by rfl) T.b_isinstance b0_isinstance (pa_cons (pv 0) (pa_cons (pe_bltn (v := .ty "list") (by rfl) T.b_list b0_list rfl) pa_nil))))))))
        (pss_one (ps_ret pe_bl))
        pss_nil)
      (pss_cons (ps_if (pt_cmpR op_ne (pe_callB call_len (by rfl) T.b_len b0_len (pa_cons (pv 0) pa_nil)) (pe_callB call_len (by rfl) T.b_len b0_len (pa_cons (pv 1) pa_nil)) (nomark _))
        (pss_one (ps_ret pe_bl))
        pss_nil)
      (pss_cons (ps_for PassesOwn.never rfl (pi_range1 (by rfl) T.b_range (pa_cons (pe_callB call_len (by rfl) T.b_len b0_len (pa_cons (pv 1) pa_nil)) pa_nil)) (pg_name (i := 2) nd rfl (Or.inl rfl))
        (pss_one (ps_if (pt_not (pt_val (pcall hself hr (pa_cons (pe_ix ix_seq (pv 0) (pv 2) (fun _ _ => rfl)) (pa_cons (pe_ix ix_seq (pv 1) (pv 2) (fun _ _ => rfl)) pa_nil)))))
          (pss_one (ps_ret pe_bl))
          pss_nil)))
      (pss_one (ps_ret pe_bl)))))))))), ?_⟩
    have fin : ∀ b : Bool, decide (x = y) = b → Q (.bl b) H := fun b e => by rw [← e]; exact q
    obtain ⟨tx, dx, xb, xi, xs, _⟩ := plain_ty hx
    obtain ⟨ty, dy, yb, yi, ys, _⟩ := plain_ty hy
    by_cases hb : isBl x = true ∨ isBl y = true
    · -- a bool
      have eqb : isBl x = true → isBl y = true → scal x y = true := fun h1 h2 => by
        cases x <;> cases y <;> first | rfl | exact absurd h1 Bool.false_ne_true | exact absurd h2 Bool.false_ne_true
      refine ⟨y, rfl, y, _, _, _, _, rfl, .ty _, dy _ _, kit_ty yb, _, rfl, b2 (fun e1 => ?_) (fun e1 => ⟨x, rfl, x, _, _, _, _, rfl, .ty _, dx _ _, kit_ty xb, _, rfl, bT ?_ ?_⟩)⟩
      rotate_left
      · rcases hb with h | h
        · exact h
        · rw [e1] at h; cases h
      all_goals
        refine ⟨y, rfl, y, _, _, _, _, rfl, .ty _, dy _ _, kit_ty yb, _, rfl, b2 (fun e1 => ⟨x, rfl, x, _, _, _, _, rfl, .ty _, dx _ _, kit_ty xb, _, rfl, b2 (fun e2 => ⟨x, rfl, y, rfl, eqb e2 e1, fin _ rfl⟩) (fun e2 => fin _ (ne_kind (f := isBl) (by rw [e1, e2]; decide)))⟩) (fun e1 => fin _ (ne_kind (f := isBl) ?_))⟩
        rcases hb with h | h
        · rw [e1, h]; decide
        · rw [e1] at h; cases h
    · have hb1 : isBl x = false := by
        cases e : isBl x with
        | true => exact absurd (.inl e) hb
        | false => rfl
      have hb2 : isBl y = false := by
        cases e : isBl y with
        | true => exact absurd (.inr e) hb
        | false => rfl
      refine ⟨y, rfl, y, _, _, _, _, rfl, .ty _, dy _ _, kit_ty yb, _, rfl, bF hb2 ⟨x, rfl, x, _, _, _, _, rfl, .ty _, dx _ _, kit_ty xb, _, rfl, bF hb1 ?_⟩⟩
      refine ⟨y, rfl, rfl, _, rfl, d2 (fun e1 => ?_) (fun e1 => ⟨x, rfl, rfl, _, rfl, d2 (fun e2 => ?_) (fun e2 => ?_)⟩)⟩
      · subst e1
        exact ⟨.non, rfl, rfl, _, rfl, dT rfl ⟨x, rfl, rfl, q⟩⟩
      · subst e2
        exact ⟨y, rfl, rfl, _, rfl, dF e1 (fin _ (decide_eq_false fun z => e1 z.symm))⟩
      · refine ⟨y, rfl, y, _, _, _, _, rfl, .ty _, dy _ _, kit_ty yi, _, rfl, b2 (fun e3 => ?_) (fun e3 => ?_)⟩
        · refine ⟨x, rfl, x, _, _, _, _, rfl, .ty _, dx _ _, kit_ty xi, _, rfl, b2 (fun e4 => ⟨x, rfl, y, rfl, ?_, q⟩) (fun e4 => fin _ (ne_kind (f := isInt) (by rw [e3, e4]; decide)))⟩
          cases x <;> cases y <;> first | rfl | exact absurd e4 Bool.false_ne_true | exact absurd e3 Bool.false_ne_true | exact absurd hb1.symm Bool.false_ne_true | exact absurd hb2.symm Bool.false_ne_true
        · have hs : isStr y = true := by
            cases y <;> first | rfl | exact absurd hy Bool.false_ne_true | exact absurd e3.symm Bool.false_ne_true | exact absurd rfl e1
          refine ⟨y, rfl, y, _, _, _, _, rfl, .ty _, dy _ _, kit_ty ys, _, rfl, bT hs ⟨x, rfl, x, _, _, _, _, rfl, .ty _, dx _ _, kit_ty xs, _, rfl, b2 (fun e4 => ⟨x, rfl, y, rfl, ?_, q⟩) (fun e4 => fin _ (ne_kind (f := isStr) (by rw [hs, e4]; decide)))⟩⟩
          cases x <;> cases y <;> first | rfl | exact absurd e4 Bool.false_ne_true | exact absurd hs Bool.false_ne_true
end
end My
set_option Elab.async false
set_option linter.all false
set_option maxRecDepth 100000
set_option autoImplicit false
set_option maxHeartbeats 4000000
namespace My
open PySem PySem.Spec PyProof.Rows L2 TL
/-! ### mathematics of texts -/
theorem lt1 (c d : Nat) : ([c] < [d]) ↔ c < d := by simp [List.cons_lt_cons_iff]
theorem dec_lt1 (c d : Nat) : decide ([c] < [d]) = decide (c < d) := decide_eq_decide.mpr (lt1 c d)
def lowC (c : Nat) : Bool := decide (97 ≤ c ∧ c ≤ 122)
def digC (c : Nat) : Bool := decide (48 ≤ c ∧ c ≤ 57)
def isName (z : Str) : Bool := decide (1 ≤ z.length ∧ z.length ≤ 8) && (tl z).all lowC
def numOk (l : List Nat) : Bool := decide (1 ≤ l.length ∧ l.length ≤ 6) && l.all digC && !(decide (l.head? = some 48) && decide (l ≠ [48]))
def numOf (z : Str) : Option Int := if numOk (tl z) = true then some ((NumText.digitsVal (tl z) : Nat) : Int) else none
section
variable {X : Cx}
theorem pmk {x : Str} {C : Addr} (E : ExcT X.K X.mg x C) {m : Str} {j : Nat} {p p2 pos : Pos} (hg : Gl X x := by rfl) (hdb : (x == ("__debug__" : Str)) = false := by decide) :
    PMk X (.Call (.Name x p) [.Constant (.str m) j p2] [] pos) (fun _ H Q => Q (.ref C) none H) :=
  pmk_own PySem.F.excBase_ValueError E.ex E.g E.kp (raises_own E.sb E.ty) hg hdb
end
section
variable {P : Program} {w : World} {K : PySem.W.Frag} {mg : Str → Option Value} {base : Heap} {cF cN cT : Addr}
theorem sc_is_name : FnScope ["text", "letter"] ["text"] (defScope s_is_name) := ⟨rfl, rfl, rfl, by decide +kernel, rfl, by decide +kernel, by decide +kernel⟩
def sp_is_name : Sp := fun vs H Q _ => ∃ z : Str, vs = [.str z] ∧ z.length ≤ 1000 ∧ ∀ H', Same H H' → Q (.bl (isName z)) H'
theorem ok_is_name (T : Txt K mg cF cN cT) : FOk P w K mg base CX0 "is_name" ["text"] 1 sp_is_name := by
  refine T.is_name.ok sc_is_name (fun vs H Q E h => ?_) (fun f cdv A outer s H vs Q E hr h => ?_)
  · obtain ⟨z, rfl, _⟩ := h
    rfl
  · obtain ⟨z, rfl, hz, q⟩ := h
    have nd := sc_is_name.nd
    obtain ⟨t8, h8⟩ := T.k_LONGEST
    refine ⟨_, (pss_one (ps_ret (pe_and (pe_chain op_le op_le pe_int (pe_callB call_len (by rfl) T.b_len b0_len (pa_cons (pv 0) pa_nil)) (pe_glob (v := .int 8) (by rfl) h8 ⟨_, rfl⟩)) (pe_one (pe_callB (cr_all rfl) (by rfl) T.b_all b0_all (pa_cons (pe_lc (own := [("letter", 1)]) (g := gName 1) (by rfl) nd (pi_str (pv 0)) (blkOk_by (own := [("letter", 1)]) (N := ["text", "letter"]) (sc := defScope s_is_name) (by decide +kernel)) (fun _ _ _ _ _ => (pg_name (i := 1) nd rfl (Or.inl rfl))) (fun _ _ _ _ _ => pts_nil) (fun _ _ _ _ _ => (pe_chain op_le_str op_le_str pe_str (pv 1) pe_str))) pa_nil)))))), ?_⟩
    have fin : ∀ (b : Bool) H', isName z = b → Same H H' → Q (.bl b) H' := fun b H' e sm => by rw [← e]; exact q H' sm
    refine ⟨.str z, rfl, .str z, z.length, rfl, ⟨le1000 hz, rfl⟩, 1, z.length, rfl, rfl, _, rfl, d2 (fun c1 => ⟨_, 8, rfl, rfl, _, rfl, d2 (fun c2 => ?_) (fun c2 => ?_)⟩) (fun c1 => ⟨_, rfl, bF rfl ?_⟩)⟩
    · refine ⟨.str z, rfl, z, rfl, fun D nD => lcS (fun pre H' => Same H H' ∧ H' D = some (.lst ((pre.map lowC).map V.bl))) ⟨Same.new nD, upd_same⟩ (fun pre c post H' e ⟨sm, hD⟩ => ?_) (fun H' ⟨sm, hD⟩ => ?_)⟩
      · refine ⟨rfl, ?_⟩
        have hlen : pre.length < 1000 := by
          have : (tl z).length = pre.length + (post.length + 1) := by show z.cps.toList.length = _; rw [e, List.length_append, List.length_cons]
          rw [← len_tl] at this
          omega
        have last : ∀ b, b = lowC c → ∃ acc, H' D = some (.lst acc) ∧ acc.length < sizeLine ∧ Same H (upd H' D (.lst (acc ++ [V.bl b]))) ∧ (upd H' D (.lst (acc ++ [V.bl b]))) D = some (.lst (((pre ++ [c]).map lowC).map V.bl)) := fun b e => by
          subst e
          exact ⟨_, hD, lt100k (by rw [List.length_map, List.length_map]; omega), fun a o h => by rw [upd_ne (ne_of_none h nD)]; exact sm a o h, by rw [upd_same, List.map_append, List.map_append]; rfl⟩
        refine ⟨.str ⟨#[c]⟩, rfl, _, ⟨#[c]⟩, rfl, rfl, _, rfl, n2 (fun d1 => ⟨⟨#[c]⟩, _, rfl, rfl, last _ ?_⟩) (fun d1 => last _ ?_)⟩
        · have d1' : ¬ c < 97 := fun z => d1 ((lt1 c 97).mpr z)
          show (!decide ([122] < [c])) = _
          unfold lowC
          rw [dec_lt1, Bool.eq_iff_iff]
          simp
          omega
        · have d1' : c < 97 := (lt1 c 97).mp d1
          unfold lowC
          rw [decide_eq_false (by omega)]
      · refine ⟨D, (tl z).map lowC, rfl, SqL.of' hD, fin _ _ ?_ sm⟩
        unfold isName
        rw [decide_eq_true (by omega), Bool.true_and, List.all_map]
        rfl
    · exact fin _ _ (by unfold isName; rw [decide_eq_false (by omega)]; rfl) (Same.refl H)
    · exact fin _ _ (by unfold isName; rw [decide_eq_false (by omega)]; rfl) (Same.refl H)
theorem sc_check_name : FnScope ["text"] ["text"] (defScope s_check_name) := ⟨rfl, rfl, rfl, by decide +kernel, rfl, by decide +kernel, by decide +kernel⟩
def sp_check_name (cN : Addr) : Sp := fun vs H Q E => ∃ z : Str, vs = [.str z] ∧ z.length ≤ 1000 ∧ ∀ H', Same H H' → (isName z = true → Q (.str z) H') ∧ (isName z = false → E (.ref cN) none H')
theorem ok_check_name (T : Txt K mg cF cN cT) : FOk P w K mg base (L2.CX P w) "check_name" ["text"] 2 (sp_check_name cN) := by
  refine T.check_name.okX sc_check_name (fun vs H Q E h => ?_) (fun f cdv A outer s H vs Q E hr h => ?_)
  · obtain ⟨z, rfl, _⟩ := h
    rfl
  · obtain ⟨z, rfl, hz, q⟩ := h
    have nd := sc_check_name.nd
    refine ⟨_, (pss_cons (ps_if (pt_not (pt_val (pcall (ok_is_name T) hr (pa_cons (pv 0) pa_nil))))
        (pss_one (ps_raise rfl (takes_of rfl rfl rfl rfl) (pmk T.e_N)))
        pss_nil)
      (pss_one (ps_ret (pv 0)))), ?_⟩
    refine ⟨.str z, rfl, z, rfl, hz, fun H' sm => ⟨_, rfl, ?_⟩⟩
    cases hb : isName z with
    | true => exact ⟨_, rfl, (q H' sm).1 hb⟩
    | false => exact (q H' sm).2 hb
theorem sc_read_number : FnScope ["text", "digit"] ["text"] (defScope s_read_number) := ⟨rfl, rfl, rfl, by decide +kernel, rfl, by decide +kernel, by decide +kernel⟩
def sp_read_number (cT : Addr) : Sp := fun vs H Q E => ∃ z : Str, vs = [.str z] ∧ z.length ≤ 1000 ∧ ∀ H', Same H H' → (∀ n, numOf z = some n → Q (.int n) H') ∧ (numOf z = none → E (.ref cT) none H')
theorem ok_read_number (T : Txt K mg cF cN cT) : FOk P w K mg base (L2.CX P w) "read_number" ["text"] 1 (sp_read_number cT) := by
  refine T.read_number.okX sc_read_number (fun vs H Q E h => ?_) (fun f cdv A outer s H vs Q E hr h => ?_)
  · obtain ⟨z, rfl, _⟩ := h
    rfl
  · obtain ⟨z, rfl, hz, q⟩ := h
    have nd := sc_read_number.nd
    obtain ⟨t6, h6⟩ := T.k_DIGITS
    refine ⟨_, (pss_cons (ps_if (PW.pt (pw_or (pt_not (pt_chain op_le op_le pe_int (pe_callB call_len (by rfl) T.b_len b0_len (pa_cons (pv 0) pa_nil)) (pe_glob (v := .int 6) (by rfl) h6 ⟨_, rfl⟩))) (pw_or1 (pt_not (pt_val (pe_callB (cr_all rfl) (by rfl) T.b_all b0_all (pa_cons (pe_lc (own := [("digit", 1)]) (g := gName 1) (by rfl) nd (pi_str (pv 0)) (blkOk_by (own := [("digit", 1)]) (N := ["text", "digit"]) (sc := defScope s_read_number) (by decide +kernel)) (fun _ _ _ _ _ => (pg_name (i := 1) nd rfl (Or.inl rfl))) (fun _ _ _ _ _ => pts_nil) (fun _ _ _ _ _ => (pe_chain op_le_str op_le_str pe_str (pv 1) pe_str))) pa_nil)))))))
        (pss_one (ps_raise rfl (takes_of rfl rfl rfl rfl) (pmk T.e_T)))
        pss_nil)
      (pss_cons (ps_if (PW.pt (pw_and (pt_cmpR op_eq (pe_ix ix_str (pv 0) pe_int (fun _ _ => rfl)) pe_str (nomark _)) (pw_and1 (pt_cmpR op_ne (pv 0) pe_str (nomark _)))))
        (pss_one (ps_raise rfl (takes_of rfl rfl rfl rfl) (pmk T.e_T)))
        pss_nil)
      (pss_one (ps_ret (pe_callTy call_int_str (by rfl) T.b_int b0_int (pa_cons (pv 0) pa_nil)))))), ?_⟩
    have bad : ∀ H', numOk (tl z) = false → Same H H' → E (.ref cT) none H' := fun H' e sm => (q H' sm).2 (by unfold numOf; rw [e]; rfl)
    have good : ∀ H', numOk (tl z) = true → Same H H' → Q (.int ((NumText.digitsVal (tl z) : Nat) : Int)) H' := fun H' e sm => (q H' sm).1 _ (by unfold numOf; rw [e]; rfl)
    have hl := len_tl z
    refine ⟨.str z, rfl, .str z, z.length, rfl, ⟨le1000 hz, rfl⟩, 1, z.length, rfl, rfl, _, rfl, d2 (fun c1 => ⟨_, 6, rfl, rfl, _, rfl, n2 (fun c2 => ?_) (fun c2 => ?_)⟩) (fun c1 => ⟨_, rfl, iteT ?_⟩)⟩
    · exact bad _ (by unfold numOk; rw [decide_eq_false (by omega)]; rfl) (Same.refl H)
    · refine ⟨.str z, rfl, z, rfl, fun D nD => lcS (fun pre H' => Same H H' ∧ H' D = some (.lst ((pre.map digC).map V.bl))) ⟨Same.new nD, upd_same⟩ (fun pre c post H' e ⟨sm, hD⟩ => ?_) (fun H' ⟨sm, hD⟩ => ?_)⟩
      · refine ⟨rfl, ?_⟩
        have hlen : pre.length < 1000 := by
          have : (tl z).length = pre.length + (post.length + 1) := by show z.cps.toList.length = _; rw [e, List.length_append, List.length_cons]
          rw [← len_tl] at this
          omega
        have last : ∀ b, b = digC c → ∃ acc, H' D = some (.lst acc) ∧ acc.length < sizeLine ∧ Same H (upd H' D (.lst (acc ++ [V.bl b]))) ∧ (upd H' D (.lst (acc ++ [V.bl b]))) D = some (.lst (((pre ++ [c]).map digC).map V.bl)) := fun b e => by
          subst e
          exact ⟨_, hD, lt100k (by rw [List.length_map, List.length_map]; omega), fun a o h => by rw [upd_ne (ne_of_none h nD)]; exact sm a o h, by rw [upd_same, List.map_append, List.map_append]; rfl⟩
        refine ⟨.str ⟨#[c]⟩, rfl, _, ⟨#[c]⟩, rfl, rfl, _, rfl, n2 (fun d1 => ⟨⟨#[c]⟩, _, rfl, rfl, last _ ?_⟩) (fun d1 => last _ ?_)⟩
        · have d1' : ¬ c < 48 := fun z => d1 ((lt1 c 48).mpr z)
          show (!decide ([57] < [c])) = _
          unfold digC
          rw [dec_lt1, Bool.eq_iff_iff]
          simp
          omega
        · have d1' : c < 48 := (lt1 c 48).mp d1
          unfold digC
          rw [decide_eq_false (by omega)]
      · refine ⟨D, (tl z).map digC, rfl, SqL.of' hD, _, rfl, ?_⟩
        have hall : ((tl z).map digC).all id = (tl z).all digC := by rw [List.all_map]; rfl
        rw [hall]
        cases hd : (tl z).all digC with
        | false => exact bad _ (by unfold numOk; rw [hd]; simp) sm
        | true =>
          obtain ⟨c, r, hc⟩ : ∃ c r, tl z = c :: r := by
            cases hcr : tl z with
            | nil => rw [hcr] at hl; simp at hl; omega
            | cons c r => exact ⟨c, r, rfl⟩
          have hok : numOk (tl z) = !(decide (c = 48) && decide (tl z ≠ [48])) := by
            unfold numOk
            rw [decide_eq_true (by omega), hd, hc]
            simp
          refine ⟨.str z, rfl, z, 0, c, rfl, rfl, le1000 hz, atI_nat (j := 0) (by show (tl z)[0]? = _; rw [hc]; rfl), rfl, _, rfl, d2 (fun e1 => ⟨.str z, rfl, rfl, _, rfl, n2 (fun e2 => ?_) (fun e2 => ?_)⟩) (fun e1 => ?_)⟩
          · have ec : c = 48 := by
              have := congrArg (fun v => match v with | V.str y => tl y | _ => []) e1
              exact (List.cons.inj (show [c] = [48] from this)).1
            refine bad _ ?_ sm
            rw [hok, decide_eq_true ec, decide_eq_true (show tl z ≠ [48] from fun e => e2 (by rw [show z = PySem.Str.ofString "0" from ext_tl e]))]
            rfl
          · have ez : tl z = [48] := by
              have := congrArg (fun v => match v with | V.str y => tl y | _ => []) e2
              exact this
            refine ⟨.str z, rfl, z, _, rfl, intText_digits ?_ ?_ ?_, ?_, good _ ?_ sm⟩
            · show NumText.AllDigits (tl z); rw [ez]; intro d hd; simp at hd; omega
            · show tl z ≠ []; rw [ez]; simp
            · omega
            · omega
            · rw [hok, ez]; simp
          · have ec : c ≠ 48 := fun e => e1 (by rw [e]; rfl)
            refine ⟨.str z, rfl, z, _, rfl, intText_digits ?_ ?_ ?_, ?_, good _ ?_ sm⟩
            · intro d hdm
              have := List.all_eq_true.mp hd d hdm
              exact of_decide_eq_true this
            · show tl z ≠ []; rw [hc]; simp
            · omega
            · omega
            · rw [hok, decide_eq_false ec]; rfl
    · exact bad _ (by unfold numOk; rw [decide_eq_false (by omega)]; rfl) (Same.refl H)
end
end My
set_option Elab.async false
set_option linter.all false
set_option maxRecDepth 100000
set_option autoImplicit false
set_option maxHeartbeats 4000000
namespace My
open PySem PySem.Spec PyProof.Rows L2 TL
/-! ### words between single blanks -/
def adj2 : List Nat → Bool
  | a :: b :: r => (decide (a = 32) && decide (b = 32)) || adj2 (b :: r)
  | _ => false
def badW (acc l : List Nat) : Prop := (acc = [] ∧ (l = [] ∨ l.head? = some 32)) ∨ l.getLast? = some 32 ∨ adj2 l = true
theorem pre1 (c : Nat) (r : List Nat) : pre [32] (c :: r) = decide (c = 32) := by
  show ((c :: r).take 1 == [32]) = _
  rw [List.take_succ_cons, List.take_zero]
  by_cases h : c = 32
  · subst h; rfl
  · rw [decide_eq_false h]
    exact beq_eq_false_iff_ne.mpr fun e => h (List.cons.inj e).1
theorem spl1_hit (acc r : List Nat) : spl [32] 0 acc (32 :: r) = acc :: spl [32] 0 [] r := spl_hit (by rw [pre1]; rfl)
theorem spl1_miss {acc r : List Nat} {c : Nat} (h : c ≠ 32) : spl [32] 0 acc (c :: r) = spl [32] 0 (acc ++ [c]) r := spl_miss (by rw [pre1]; exact decide_eq_false h)
theorem spl_bad : ∀ (l acc : List Nat), ([] ∈ spl [32] 0 acc l) ↔ badW acc l
  | [], acc => by
    rw [spl_nil]
    unfold badW adj2
    rw [List.mem_singleton, show ([] = acc) ↔ (acc = []) from eq_comm]
    simp
  | c :: r, acc => by
    by_cases h : c = 32
    · subst h
      rw [spl1_hit, List.mem_cons, spl_bad r []]
      unfold badW
      rw [show ([] = acc) ↔ (acc = []) from eq_comm]
      cases r with
      | nil => simp [adj2]
      | cons d r =>
        simp only [adj2, List.getLast?_cons_cons, List.head?_cons, Option.some.injEq, reduceCtorEq, false_or, true_and, or_true, and_true, Bool.or_eq_true, Bool.and_eq_true, decide_eq_true_eq]
        by_cases h1 : acc = [] <;> by_cases h2 : d = 32 <;> by_cases h3 : (d :: r).getLast? = some 32 <;> simp only [h1, h2, h3, true_or, or_true, false_or, or_false]
    · rw [spl1_miss h, spl_bad r]
      unfold badW
      cases r with
      | nil => simp [adj2, h]
      | cons d r => simp [adj2, List.getLast?_cons_cons, h]
theorem spl_free : ∀ (l acc : List Nat), 32 ∉ acc → ∀ w ∈ spl [32] 0 acc l, 32 ∉ w
  | [], acc, ha, w, hw => by
    rw [spl_nil] at hw
    rw [List.mem_singleton.mp hw]
    exact ha
  | c :: r, acc, ha, w, hw => by
    by_cases h : c = 32
    · subst h
      rw [spl1_hit] at hw
      rcases List.mem_cons.mp hw with e | e
      · rw [e]; exact ha
      · exact spl_free r [] (by simp) w e
    · rw [spl1_miss h] at hw
      exact spl_free r _ (by simp [ha]; exact fun e => h e.symm) w hw
theorem spl_ne (l acc : List Nat) : spl [32] 0 acc l ≠ [] := by
  induction l generalizing acc with
  | nil => rw [spl_nil]; simp
  | cons c r ih =>
    by_cases h : c = 32
    · subst h; rw [spl1_hit]; simp
    · rw [spl1_miss h]; exact ih _
theorem joinL_cons (S p : List Nat) : ∀ (q : List (List Nat)), q ≠ [] → joinL S (p :: q) = p ++ S ++ joinL S q
  | [], h => absurd rfl h
  | _ :: _, _ => by simp [joinL]
theorem spl_join' : ∀ (l acc : List Nat), joinL [32] (spl [32] 0 acc l) = acc ++ l
  | [], acc => by rw [spl_nil]; simp [joinL]
  | c :: r, acc => by
    by_cases h : c = 32
    · subst h
      rw [spl1_hit, joinL_cons _ _ _ (spl_ne r []), spl_join' r []]
      simp
    · rw [spl1_miss h, spl_join' r]
      simp
theorem spl_len : ∀ (l acc : List Nat), (spl [32] 0 acc l).length ≤ l.length + 1
  | [], acc => by rw [spl_nil]; simp
  | c :: r, acc => by
    by_cases h : c = 32
    · subst h
      rw [spl1_hit]
      have := spl_len r []
      simp; omega
    · rw [spl1_miss h]
      have := spl_len r (acc ++ [c])
      simp; omega
theorem pre2_iff (l : List Nat) : adj2 l = true ↔ ∃ i, pre [32, 32] (l.drop i) = true := by
  induction l with
  | nil => simp [adj2, pre]
  | cons a r ih =>
    constructor
    · intro h
      cases r with
      | nil => simp [adj2] at h
      | cons b r =>
        simp [adj2] at h
        rcases h with ⟨rfl, rfl⟩ | h
        · exact ⟨0, by simp [pre]⟩
        · obtain ⟨i, hi⟩ := ih.mp h
          exact ⟨i + 1, by simpa using hi⟩
    · rintro ⟨i, hi⟩
      cases r with
      | nil => cases i <;> simp [pre] at hi
      | cons b r =>
        cases i with
        | zero =>
          simp [pre] at hi
          simp [adj2, hi]
        | succ i =>
          have := ih.mpr ⟨i, by simpa using hi⟩
          simp [adj2, this]
def blank : Str := PySem.Str.ofString " "
def blank2 : Str := PySem.Str.ofString "  "
theorem split_words_eq (z : Str) : (Txt.split z blank).map tl = spl [32] 0 [] (tl z) := split_spl z blank (by decide) (kind_ok (by decide +kernel))
theorem starts_iff (z : Str) : Txt.startswith z blank = true ↔ (tl z).head? = some 32 := by
  have h := at_iff (x := z) (y := blank) (by decide) 0
  unfold PySem.StrLaws.At at h
  unfold Txt.startswith
  rw [Bool.and_eq_true, decide_eq_true_eq, h, List.drop_zero]
  cases tl z with
  | nil => simp [pre]; decide
  | cons c r =>
    show pre [32] (c :: r) = true ↔ _
    rw [pre1]; simp
theorem ends_iff (z : Str) : Txt.endswith z blank = true ↔ (tl z).getLast? = some 32 := by
  have h := at_iff (x := z) (y := blank) (by decide) (z.length - blank.length)
  unfold PySem.StrLaws.At at h
  unfold Txt.endswith
  have h1 : blank.length = 1 := by decide
  rw [h1] at h ⊢
  rw [Bool.and_eq_true, decide_eq_true_eq]
  have hl := len_tl z
  by_cases h0 : tl z = []
  · rw [h0] at hl ⊢
    simp at hl
    rw [hl]
    simp
  · have hp : 0 < (tl z).length := List.length_pos_iff.mpr h0
    have h' : (z.length - 1 + 1 ≤ z.length ∧ Builtin.Str.subAt z blank (z.length - 1) = true) ↔ pre (tl blank) ((tl z).drop (z.length - 1)) = true := h
    have e : (0 + 1 ≤ z.length ∧ Builtin.Str.subAt z blank (z.length - 1) = true) ↔ pre [32] ((tl z).drop (z.length - 1)) = true := by
      rw [show pre [32] ((tl z).drop (z.length - 1)) = pre (tl blank) ((tl z).drop (z.length - 1)) from rfl, ← h']
      constructor <;> exact fun q => ⟨by omega, q.2⟩
    rw [e, hl, List.getLast?_eq_getElem?]
    have hx : (tl z).length - 1 < (tl z).length := by omega
    rw [List.drop_eq_getElem_cons hx, pre1, List.getElem?_eq_getElem hx]
    simp
theorem has2_iff (z : Str) : (!(Builtin.Str.occurrences z blank2 0 z.length 1).isEmpty) = adj2 (tl z) := by
  rw [Bool.eq_iff_iff, PySem.StrLaws.found_iff, pre2_iff]
  constructor
  · rintro ⟨i, h⟩
    exact ⟨i, (at_iff (x := z) (y := blank2) (by decide) i).mp h⟩
  · rintro ⟨i, h⟩
    exact ⟨i, (at_iff (x := z) (y := blank2) (by decide) i).mpr h⟩
/-- what split_words refuses -/
def badB (z : Str) : Bool := decide (z = Str.empty) || (Txt.startswith z blank || (Txt.endswith z blank || adj2 (tl z)))
theorem badB_iff (z : Str) : badB z = true ↔ Str.empty ∈ Txt.split z blank := by
  have h : Str.empty ∈ Txt.split z blank ↔ [] ∈ (Txt.split z blank).map tl := by
    rw [List.mem_map]
    constructor
    · exact fun h => ⟨_, h, rfl⟩
    · rintro ⟨w, h, e⟩
      have : w = Str.empty := ext_tl (by rw [e]; rfl)
      rwa [← this]
  rw [h, split_words_eq, spl_bad]
  unfold badB badW
  rw [Bool.or_eq_true, Bool.or_eq_true, Bool.or_eq_true, decide_eq_true_eq, starts_iff, ends_iff]
  have e : z = Str.empty ↔ tl z = [] := ⟨fun e => by rw [e]; rfl, fun e => ext_tl (by rw [e]; rfl)⟩
  rw [e]
  constructor
  · rintro (h | h | h | h)
    · exact .inl ⟨rfl, .inl h⟩
    · exact .inl ⟨rfl, .inr h⟩
    · exact .inr (.inl h)
    · exact .inr (.inr h)
  · rintro (⟨_, h | h⟩ | h | h)
    · exact .inl h
    · exact .inr (.inl h)
    · exact .inr (.inr (.inl h))
    · exact .inr (.inr (.inr h))
theorem inV_str (w : Str) : ∀ ys : List Str, inV (.str w) (ys.map V.str) = decide (w ∈ ys)
  | [] => rfl
  | y :: ys => by
    have ih := inV_str w ys
    show (eqV (.str y) (.str w) || inV (.str w) (ys.map V.str)) = _
    rw [ih]
    show ((y == w) || _) = _
    rw [Bool.eq_iff_iff, Bool.or_eq_true, beq_iff_eq, decide_eq_true_eq, decide_eq_true_eq, List.mem_cons, show (y = w) ↔ (w = y) from eq_comm]
theorem flat_strs : ∀ ys : List Str, (ys.map V.str).all flatV = true
  | [] => rfl
  | _ :: ys => by
    show (flatV (V.str _) && (ys.map V.str).all flatV) = true
    rw [flat_strs ys]; rfl
end My
set_option Elab.async false
set_option linter.all false
set_option maxRecDepth 100000
set_option autoImplicit false
set_option maxHeartbeats 4000000
namespace My
open PySem PySem.Spec PyProof.Rows L2 TL
section
variable {X : Cx}
/-- s.index(y), y is there -/
theorem mt_index1 : MtR X "str.index" (fun x xs H Q => ∃ (a b : Str) (k : Nat), x = .str a ∧ xs = [.str b] ∧ Txt.index0 a b = some k ∧ Q (.int (k : Int)) H) := by
  intro pins s σ H x xs v us Q I rx rs h
  obtain ⟨a, b, k, rfl, rfl, hk, w⟩ := h
  obtain ⟨t, rfl⟩ := rx
  cases rs with
  | cons r1 rs =>
    cases rs
    obtain ⟨u, rfl⟩ := r1
    cases q : Builtin.Str.occurrences a b 0 a.length 1 with
    | nil =>
      unfold Txt.index0 at hk
      rw [q] at hk
      cases hk
    | cons k' rest =>
      have e : k' = k := by
        unfold Txt.index0 at hk
        rw [q] at hk
        exact Option.some.inj hk
      subst e
      exact PySem.SC.index q ⟨.int (k' : Nat), H, I.tok _, ⟨_, rfl⟩, w⟩
/-- isinstance(e, c), e the exception that the suite holds -/
def rIsEx (K : PySem.W.Frag) (cls : Value) (d : Option Addr) (a : Addr) : List V → Hp → VK → Prop := fun xs H Q => ∃ D, cls = .ref D ∧ d = none ∧ ExcC K D ∧ rIsE K D a xs H Q
theorem call_isEx {a : Addr} {oe : Obj} {cls : Value} {d : Option Addr} {pn : List (Addr × Obj)} (hz : Zc cls d oe) (hf : ∃ vs, oe.data = .fields vs) : CallR (X.suite a ((a, oe) :: pn)) (.builtin "isinstance") (rIsEx X.K cls d a) := by
  intro pins s σ H xs us Q I r h
  obtain ⟨D, rfl, rfl, C, h⟩ := h
  exact call_isE C hz hf pins s σ H xs us Q I r h
end
def alpha : Str := PySem.Str.ofString "abcdefghijklmnopqrstuvwxyz"
def digits : Str := PySem.Str.ofString "0123456789"
theorem tl_alpha : tl alpha = List.range' 97 26 := by decide +kernel
theorem tl_digits : tl digits = List.range' 48 10 := by decide +kernel
theorem mem_alpha (c : Nat) : decide (c ∈ tl alpha) = lowC c := by
  unfold lowC
  rw [tl_alpha]
  exact decide_eq_decide.mpr (by rw [List.mem_range'_1]; omega)
theorem mem_digits (c : Nat) : decide (c ∈ tl digits) = digC c := by
  unfold digC
  rw [tl_digits]
  exact decide_eq_decide.mpr (by rw [List.mem_range'_1]; omega)
theorem index_digit {c : Nat} (h : digC c = true) : Txt.index0 digits ⟨#[c]⟩ = some (c - 48) := by
  have h' : 48 ≤ c ∧ c ≤ 57 := of_decide_eq_true h
  have : c = 48 ∨ c = 49 ∨ c = 50 ∨ c = 51 ∨ c = 52 ∨ c = 53 ∨ c = 54 ∨ c = 55 ∨ c = 56 ∨ c = 57 := by omega
  rcases this with rfl | rfl | rfl | rfl | rfl | rfl | rfl | rfl | rfl | rfl <;> decide +kernel
theorem notin_alpha (c : Nat) : (!(!(Builtin.Str.occurrences alpha ⟨#[c]⟩ 0 alpha.length 1).isEmpty)) = !lowC c := by
  rw [PySem.StrLaws.found_one, ← mem_alpha]
theorem notin_digits (c : Nat) : (!(!(Builtin.Str.occurrences digits ⟨#[c]⟩ 0 digits.length 1).isEmpty)) = !digC c := by
  rw [PySem.StrLaws.found_one, ← mem_digits]
def valD (l : List Nat) : Nat := NumText.digitsVal l
theorem valD_snoc (l : List Nat) (c : Nat) : valD (l ++ [c]) = valD l * 10 + (c - 48) := by
  unfold valD NumText.digitsVal
  rw [List.foldl_append]
  rfl
section
variable {P : Program} {w : World} {K : PySem.W.Frag} {mg : Str → Option Value} {base : Heap} {cF cN cT : Addr}
theorem sc_split_words : FnScope ["line", "words"] ["line"] (defScope s_split_words) := ⟨rfl, rfl, rfl, by decide +kernel, rfl, by decide +kernel, by decide +kernel⟩
def sp_split_words (cT : Addr) : Sp := fun vs H Q E => ∃ z : Str, vs = [.str z] ∧ z.length ≤ 1000 ∧ (badB z = true → ∀ H', Same H H' → E (.ref cT) none H') ∧
  (badB z = false → ∀ p H', H p = none → Same H H' → H' p = some (.lst ((Txt.split z blank).map V.str)) → Q (.ref p) H')
theorem ok_split_words (T : Txt K mg cF cN cT) : FOk P w K mg base (L2.CX P w) "split_words" ["line"] 1 (sp_split_words cT) := by
  refine T.split_words.okX sc_split_words (fun vs H Q E h => ?_) (fun f cdv A outer s H vs Q E hr h => ?_)
  · obtain ⟨z, rfl, _⟩ := h
    rfl
  · obtain ⟨z, rfl, hz, qb, qg⟩ := h
    have nd := sc_split_words.nd
    refine ⟨_, (pss_cons (ps_set (i := 1) nd rfl (Or.inl rfl) (pe_split (pv 0) pe_str))
      (pss_cons (ps_if (pt_cmpR op_in_seq pe_str (pv 1) (by rfl))
        (pss_one (ps_raise rfl (takes_of rfl rfl rfl rfl) (pmk T.e_T)))
        pss_nil)
      (pss_one (ps_ret (pv 1))))), ?_⟩
    refine ⟨.str z, rfl, ⟨z, rfl⟩, z, blank, rfl, rfl, by decide, le100k (by omega), fun p np => ?_⟩
    refine ⟨.ref p, rfl, p, _, rfl, .inl (SqL.of' upd_same), rfl, flat_strs _, _, rfl, ?_⟩
    have e : inV (.str (PySem.Str.ofString "")) ((Txt.split z blank).map V.str) = badB z := by
      rw [inV_str, Bool.eq_iff_iff, decide_eq_true_eq, badB_iff]
      rfl
    show if (if false = true then _ else inV (.str (PySem.Str.ofString "")) ((Txt.split z blank).map V.str)) = true then _ else _
    rw [if_neg Bool.false_ne_true, e]
    cases hb : badB z with
    | true => exact qb hb _ (Same.new np)
    | false => exact ⟨_, rfl, qg hb p _ np (Same.new np) upd_same⟩
theorem sc__law_is_name : FnScope ["_law_text_here", "_law_sign"] ["_law_text_here"] (defScope s__law_is_name) := ⟨rfl, rfl, rfl, by decide +kernel, rfl, by decide +kernel, by decide +kernel⟩
def sp__law_is_name : Sp := fun vs H Q _ => ∃ z : Str, vs = [.str z] ∧ z.length ≤ 1000 ∧ Q (.bl (isName z)) H
theorem ok__law_is_name (T : Txt K mg cF cN cT) : FOk P w K mg base CX0 "_law_is_name" ["_law_text_here"] 1 sp__law_is_name := by
  refine T._law_is_name.ok sc__law_is_name (fun vs H Q E h => ?_) (fun f cdv A outer s H vs Q E hr h => ?_)
  · obtain ⟨z, rfl, _⟩ := h
    rfl
  · obtain ⟨z, rfl, hz, q⟩ := h
    have nd := sc__law_is_name.nd
    refine ⟨_, (pss_cons (ps_for PassesOwn.never rfl (pi_str (pv 0)) (pg_name (i := 1) nd rfl (Or.inl rfl))
        (pss_one (ps_if (pt_cmpR op_notin_str (pv 1) pe_str (by rfl))
          (pss_one (ps_ret pe_bl))
          pss_nil)))
      (pss_one (ps_ret (pe_chain op_le op_le pe_int (pe_callB call_len (by rfl) T.b_len b0_len (pa_cons (pv 0) pa_nil)) pe_int)))), ?_⟩
    have fin : ∀ b, isName z = b → Q (.bl b) H := fun b e => by rw [← e]; exact q
    refine ⟨.str z, rfl, z, rfl, forS (fun pre σ H' => (∃ y, σ = [some (.str z), y]) ∧ H' = H ∧ pre.all lowC = true) ⟨⟨none, rfl⟩, rfl, rfl⟩ (fun pre c post σ H' e ⟨⟨y, eσ⟩, eH, hp⟩ => ?_) (fun σ H' ⟨⟨y, eσ⟩, eH, hp⟩ => ?_)⟩
    · subst eσ eH
      refine ⟨.str ⟨#[c]⟩, rfl, ⟨#[c]⟩, alpha, rfl, rfl, _, rfl, ?_⟩
      show if (!(!(Builtin.Str.occurrences alpha ⟨#[c]⟩ 0 alpha.length 1).isEmpty)) = true then _ else _
      rw [notin_alpha]
      cases hc : lowC c with
      | true => exact ⟨⟨_, rfl⟩, rfl, by rw [List.all_append, hp, Bool.true_and]; show (lowC c && true) = true; rw [hc]; rfl⟩
      | false =>
        refine fin false ?_
        unfold isName
        rw [show tl z = pre ++ c :: post from e, List.all_append, hp, Bool.true_and, List.all_cons, hc, Bool.false_and, Bool.and_false]
    · subst eσ eH
      refine ⟨.str z, rfl, .str z, z.length, rfl, ⟨le1000 hz, rfl⟩, 1, z.length, rfl, rfl, _, rfl, d2 (fun c1 => ⟨_, 8, rfl, rfl, fin _ ?_⟩) (fun c1 => fin _ ?_)⟩
      · unfold isName
        rw [show (tl z).all lowC = true from hp, Bool.and_true]
        exact decide_eq_decide.mpr (by omega)
      · unfold isName
        rw [decide_eq_false (by omega)]
        rfl
theorem sc__law_number : FnScope ["_law_text_here", "_law_number_here", "_law_sign"] ["_law_text_here"] (defScope s__law_number) := ⟨rfl, rfl, rfl, by decide +kernel, rfl, by decide +kernel, by decide +kernel⟩
def optV : Option Int → V
  | some n => .int n
  | none => .non
def sp__law_number : Sp := fun vs H Q _ => ∃ z : Str, vs = [.str z] ∧ z.length ≤ 12 ∧ Q (optV (numOf z)) H
theorem ok__law_number (T : Txt K mg cF cN cT) : FOk P w K mg base CX0 "_law_number" ["_law_text_here"] 1 sp__law_number := by
  refine T._law_number.ok sc__law_number (fun vs H Q E h => ?_) (fun f cdv A outer s H vs Q E hr h => ?_)
  · obtain ⟨z, rfl, _⟩ := h
    rfl
  · obtain ⟨z, rfl, hz, q⟩ := h
    have nd := sc__law_number.nd
    refine ⟨_, (pss_cons (ps_set (i := 1) nd rfl (Or.inl rfl) pe_int)
      (pss_cons (ps_for PassesOwn.never rfl (pi_str (pv 0)) (pg_name (i := 2) nd rfl (Or.inl rfl))
        (pss_cons (ps_if (pt_cmpR op_notin_str (pv 2) pe_str (by rfl))
          (pss_one (ps_ret pe_non))
          pss_nil)
        (pss_one (ps_set (i := 1) nd rfl (Or.inl rfl) (pe_op op_add (pe_op op_mulB (pv 1) pe_int) (pe_m1 PySem.F.slot_str_index PySem.F.type_str_index mt_index1 pe_str (pv 2)))))))
      (pss_cons (ps_if (PW.pt (pw_or (pt_cmpR op_eq (pv 0) pe_str (nomark _)) (pw_or (pt_cmpR op_gt (pe_callB call_len (by rfl) T.b_len b0_len (pa_cons (pv 0) pa_nil)) pe_int (nomark _)) (pw_or1 (PW.pt (pw_and (pt_cmpR op_gt (pe_callB call_len (by rfl) T.b_len b0_len (pa_cons (pv 0) pa_nil)) pe_int (nomark _)) (pw_and1 (pt_cmpR op_eq (pe_ix ix_str (pv 0) pe_int (fun _ _ => rfl)) pe_str (nomark _)))))))))
        (pss_one (ps_ret pe_non))
        pss_nil)
      (pss_one (ps_ret (pv 1)))))), ?_⟩
    have none' : numOk (tl z) = false → Q .non H := fun e => by
      have : numOf z = none := by unfold numOf; rw [e]; rfl
      rw [this] at q
      exact q
    have some' : numOk (tl z) = true → Q (.int ((valD (tl z) : Nat) : Int)) H := fun e => by
      have : numOf z = some ((valD (tl z) : Nat) : Int) := by unfold numOf; rw [e]; rfl
      rw [this] at q
      exact q
    have hl := len_tl z
    refine ⟨.str z, rfl, z, rfl, forS (fun pre σ H' => (∃ y, σ = [some (.str z), some (.int ((valD pre : Nat) : Int)), y]) ∧ H' = H ∧ pre.all digC = true ∧ valD pre < 10 ^ pre.length) ⟨⟨none, rfl⟩, rfl, rfl, by decide⟩ (fun pre c post σ H' e ⟨⟨y, eσ⟩, eH, hp, hb⟩ => ?_) (fun σ H' ⟨⟨y, eσ⟩, eH, hp, hb⟩ => ?_)⟩
    · subst eσ eH
      refine ⟨.str ⟨#[c]⟩, rfl, ⟨#[c]⟩, digits, rfl, rfl, _, rfl, ?_⟩
      show if (!(!(Builtin.Str.occurrences digits ⟨#[c]⟩ 0 digits.length 1).isEmpty)) = true then _ else _
      rw [notin_digits]
      cases hc : digC c with
      | true =>
        have hlen : pre.length < 12 := by
          have : (tl z).length = pre.length + (post.length + 1) := by rw [show tl z = pre ++ c :: post from e, List.length_append, List.length_cons]
          omega
        have hpow : 10 ^ pre.length ≤ 10 ^ 11 := Nat.pow_le_pow_right (by decide) (by omega)
        have hcd : 48 ≤ c ∧ c ≤ 57 := of_decide_eq_true hc
        have h40 : (10 : Nat) ^ 11 < 2 ^ 40 := by decide
        refine ⟨.int ((valD pre : Nat) : Int), rfl, (valD pre : Nat), 10, rfl, rfl, cmul_small (by rw [Int.natAbs_natCast]; omega) (by decide), ⟨digits, rfl⟩, .str ⟨#[c]⟩, rfl, digits, ⟨#[c]⟩, c - 48, rfl, rfl, index_digit hc, _, _, rfl, rfl, ?_⟩
        refine ⟨⟨some (.str ⟨#[c]⟩), ?_⟩, rfl, by rw [List.all_append, hp, Bool.true_and]; show (digC c && true) = true; rw [hc]; rfl, ?_⟩
        · rw [valD_snoc]
          show [some (V.str z), some (V.int (((valD pre : Nat) : Int) * 10 + ((c - 48 : Nat) : Int))), some (V.str ⟨#[c]⟩)] = _
          rw [Int.natCast_add, Int.natCast_mul]
          rfl
        · rw [valD_snoc, List.length_append]
          show _ < 10 ^ (pre.length + 1)
          rw [Nat.pow_succ]
          omega
      | false =>
        refine none' ?_
        unfold numOk
        rw [show tl z = pre ++ c :: post from e, List.all_append, hp, Bool.true_and, List.all_cons, hc, Bool.false_and, Bool.and_false, Bool.false_and]
    · subst eσ eH
      have hall : (tl z).all digC = true := hp
      refine ⟨.str z, rfl, rfl, _, rfl, d2 (fun c1 => ?_) (fun c1 => ⟨.str z, rfl, .str z, z.length, rfl, ⟨le1000 (by omega), rfl⟩, z.length, 6, rfl, rfl, _, rfl, d2 (fun c2 => ?_) (fun c2 => ?_)⟩)⟩
      · refine none' ?_
        have : z = PySem.Str.ofString "" := V.str.inj c1
        rw [this]
        decide
      · refine none' ?_
        unfold numOk
        rw [decide_eq_false (by omega)]
        rfl
      · have hne : tl z ≠ [] := fun e => c1 (by rw [show z = PySem.Str.ofString "" from ext_tl e])
        obtain ⟨c, r, hc⟩ : ∃ c r, tl z = c :: r := by
          cases hcr : tl z with
          | nil => exact absurd hcr hne
          | cons c r => exact ⟨c, r, rfl⟩
        have hlr : z.length = r.length + 1 := by rw [hl, hc]; rfl
        have hok : numOk (tl z) = !(decide (c = 48) && decide (r ≠ [])) := by
          unfold numOk
          rw [decide_eq_true (by omega), hall, hc]
          by_cases e1 : c = 48
          · subst e1; simp
          · simp [e1]
        refine ⟨.str z, rfl, .str z, z.length, rfl, ⟨le1000 (by omega), rfl⟩, z.length, 1, rfl, rfl, _, rfl, d2 (fun c3 => ?_) (fun c3 => ?_)⟩
        · have hr : r ≠ [] := fun e => by rw [e] at hlr; simp at hlr; omega
          refine ⟨.str z, rfl, z, 0, c, rfl, rfl, le1000 (by omega), atI_nat (j := 0) (by show (tl z)[0]? = _; rw [hc]; rfl), rfl, _, rfl, d2 (fun c4 => ?_) (fun c4 => ?_)⟩
          · have ec : c = 48 := by
              have := congrArg (fun v => match v with | V.str y => tl y | _ => []) c4
              exact (List.cons.inj (show [c] = [48] from this)).1
            exact none' (by rw [hok, decide_eq_true ec, decide_eq_true hr]; rfl)
          · have ec : c ≠ 48 := fun e => c4 (by rw [e]; rfl)
            exact ⟨_, rfl, some' (by rw [hok, decide_eq_false ec]; rfl)⟩
        · have hr : r = [] := by
            cases r with
            | nil => rfl
            | cons d r => simp at hlr; omega
          exact ⟨_, rfl, some' (by rw [hok, hr]; simp)⟩
end
end My
set_option Elab.async false
set_option linter.all false
set_option maxRecDepth 100000
set_option autoImplicit false
set_option maxHeartbeats 4000000
namespace My
open PySem PySem.Spec PyProof.Rows L2 TL
theorem spl_sum : ∀ (l acc : List Nat), ((spl [32] 0 acc l).map List.length).sum ≤ acc.length + l.length
  | [], acc => by rw [spl_nil]; simp
  | c :: r, acc => by
    by_cases h : c = 32
    · subst h
      have := spl_sum r []
      rw [spl1_hit, List.map_cons, List.sum_cons, List.length_cons]
      simp at this
      omega
    · have := spl_sum r (acc ++ [c])
      rw [spl1_miss h, List.length_cons]
      simp at this
      omega
theorem blank_eq : blank = ⟨#[32]⟩ := ext_tl rfl
theorem words_len (z : Str) : (Txt.split z blank).length ≤ z.length + 1 := by
  have h := spl_len (tl z) []
  rw [← split_words_eq, List.length_map, ← len_tl] at h
  exact h
theorem words_sum (z : Str) : ((Txt.split z blank).map (·.length)).sum ≤ z.length := by
  have h := spl_sum (tl z) []
  rw [← split_words_eq, List.map_map, ← len_tl, List.length_nil, Nat.zero_add] at h
  have e : List.length ∘ tl = fun w : Str => w.length := by
    funext w
    exact (len_tl w).symm
  rw [e] at h
  exact h
theorem words_join (z : Str) : Txt.join blank (Txt.split z blank) = z := by
  refine ext_tl ?_
  rw [join_eq, tl_join, split_words_eq]
  exact spl_join' (tl z) []
theorem words_free (z : Str) {w : Str} (h : w ∈ Txt.split z blank) : (!(Builtin.Str.occurrences w blank 0 w.length 1).isEmpty) = false := by
  rw [blank_eq, PySem.StrLaws.found_one]
  refine decide_eq_false (spl_free (tl z) [] (by simp) (tl w) ?_)
  rw [← split_words_eq]
  exact List.mem_map.mpr ⟨w, h, rfl⟩
section
variable {P : Program} {w : World} {K : PySem.W.Frag} {mg : Str → Option Value} {base : Heap} {cF cN cT : Addr}
theorem sc__law_checked : FnScope ["_law_text_here"] ["_law_text_here"] (defScope s__law_checked) := ⟨rfl, rfl, rfl, by decide +kernel, rfl, by decide +kernel, by decide +kernel⟩
def sp__law_checked : Sp := fun vs H Q _ => ∃ z : Str, vs = [.str z] ∧ z.length ≤ 1000 ∧ ∀ H', Same H H' → Q (if isName z = true then .str z else .non) H'
theorem ok__law_checked (T : Txt K mg cF cN cT) : FOk P w K mg base CX0 "_law_checked" ["_law_text_here"] 3 sp__law_checked := by
  refine T._law_checked.ok sc__law_checked (fun vs H Q E h => ?_) (fun f cdv A outer s H vs Q E hr h => ?_)
  · obtain ⟨z, rfl, _⟩ := h
    rfl
  · obtain ⟨z, rfl, hz, q⟩ := h
    have nd := sc__law_checked.nd
    refine ⟨_, (pss_one (ps_try_only rfl rfl ⟨rfl, by decide, .inl T.e_N.g⟩ takes0
        (fun W pn xe tk _ => pss_one (ps_ret (pcallX (ok_check_name T) hr tk (pa_cons (pv 0) pa_nil))))
        (fun a oe cls d pn _ _ => pss_one (ps_ret pe_non)))), ?_⟩
    refine ⟨.str z, rfl, z, rfl, hz, fun H' sm => ⟨fun e => ?_, fun e => ⟨true, T.c_NN, fun _ a ha => ?_, fun q => nomatch q⟩⟩⟩
    · have := q H' sm
      rw [if_pos e] at this
      exact this
    · have := q H' sm
      rw [if_neg (by rw [e]; exact Bool.false_ne_true)] at this
      exact this
theorem sc__law_read : FnScope ["_law_text_here"] ["_law_text_here"] (defScope s__law_read) := ⟨rfl, rfl, rfl, by decide +kernel, rfl, by decide +kernel, by decide +kernel⟩
def sp__law_read : Sp := fun vs H Q _ => ∃ z : Str, vs = [.str z] ∧ z.length ≤ 1000 ∧ ∀ H', Same H H' → Q (optV (numOf z)) H'
theorem ok__law_read (T : Txt K mg cF cN cT) : FOk P w K mg base CX0 "_law_read" ["_law_text_here"] 2 sp__law_read := by
  refine T._law_read.ok sc__law_read (fun vs H Q E h => ?_) (fun f cdv A outer s H vs Q E hr h => ?_)
  · obtain ⟨z, rfl, _⟩ := h
    rfl
  · obtain ⟨z, rfl, hz, q⟩ := h
    have nd := sc__law_read.nd
    refine ⟨_, (pss_one (ps_try_only rfl rfl ⟨rfl, by decide, .inl T.e_T.g⟩ takes0
        (fun W pn xe tk _ => pss_one (ps_ret (pcallX (ok_read_number T) hr tk (pa_cons (pv 0) pa_nil))))
        (fun a oe cls d pn _ _ => pss_one (ps_ret pe_non)))), ?_⟩
    refine ⟨.str z, rfl, z, rfl, hz, fun H' sm => ⟨fun n e => ?_, fun e => ⟨true, T.c_TT, fun _ a ha => ?_, fun q => nomatch q⟩⟩⟩
    · have := q H' sm
      rw [e] at this
      exact this
    · have := q H' sm
      rw [e] at this
      exact this
theorem sc__law_name_error : FnScope ["_law_text_here", "e"] ["_law_text_here"] (defScope s__law_name_error) := ⟨rfl, rfl, rfl, by decide +kernel, rfl, by decide +kernel, by decide +kernel⟩
def sp__law_name_error : Sp := fun vs H Q _ => ∃ z : Str, vs = [.str z] ∧ z.length ≤ 1000 ∧ ∀ H', Same H H' → Q (.bl (!isName z)) H'
theorem ok__law_name_error (T : Txt K mg cF cN cT) : FOk P w K mg base CX0 "_law_name_error" ["_law_text_here"] 3 sp__law_name_error := by
  refine T._law_name_error.ok sc__law_name_error (fun vs H Q E h => ?_) (fun f cdv A outer s H vs Q E hr h => ?_)
  · obtain ⟨z, rfl, _⟩ := h
    rfl
  · obtain ⟨z, rfl, hz, q⟩ := h
    have nd := sc__law_name_error.nd
    refine ⟨_, (pss_cons (ps_try_as (i := 1) rfl rfl nd rfl rfl ⟨rfl, by decide, .inl T.e_F.g⟩ takes0
        (fun W pn xe tk _ => pss_one (ps_expr (pcallX (ok_check_name T) hr tk (pa_cons (pv 0) pa_nil))))
        (fun a oe cls d pn hz hf => pss_one (ps_ret (pe_and (pe_callB (call_isEx hz hf) (by rfl) T.b_isinstance b0_isinstance (pa_cons (pv 1) (pa_cons (pe_bltn (v := .ty "ValueError") (by rfl) T.b_ValueError b0_ValueError rfl) pa_nil))) (pe_one (pe_not (pe_callB (call_isEx hz hf) (by rfl) T.b_isinstance b0_isinstance (pa_cons (pv 1) (pa_cons (pe_glob (v := .ref cT) (by rfl) T.e_T.g rfl) pa_nil)))))))))
      (pss_one (ps_ret pe_bl))), ?_⟩
    refine ⟨.str z, rfl, z, rfl, hz, fun H' sm => ⟨fun e => ?_, fun e => ⟨true, T.c_NF, fun _ a ha => ?_, fun q => nomatch q⟩⟩⟩
    · have := q H' sm
      rw [e] at this
      exact this
    · have := q H' sm
      rw [e] at this
      exact ⟨.ref a, rfl, cN, rfl, rfl, T.i_N, .ty "ValueError", .type "ValueError", true, rfl, fun u r => r, T.i_Nv, true, rfl, ⟨.ref a, rfl, cN, rfl, rfl, T.i_N, .ref cT, .ref cT, false, rfl, fun u r => r, T.i_NT, false, rfl, this⟩⟩
theorem sc__law_number_error : FnScope ["_law_text_here", "e"] ["_law_text_here"] (defScope s__law_number_error) := ⟨rfl, rfl, rfl, by decide +kernel, rfl, by decide +kernel, by decide +kernel⟩
def sp__law_number_error : Sp := fun vs H Q _ => ∃ z : Str, vs = [.str z] ∧ z.length ≤ 1000 ∧ ∀ H', Same H H' → Q (.bl (decide (numOf z = none))) H'
theorem ok__law_number_error (T : Txt K mg cF cN cT) : FOk P w K mg base CX0 "_law_number_error" ["_law_text_here"] 2 sp__law_number_error := by
  refine T._law_number_error.ok sc__law_number_error (fun vs H Q E h => ?_) (fun f cdv A outer s H vs Q E hr h => ?_)
  · obtain ⟨z, rfl, _⟩ := h
    rfl
  · obtain ⟨z, rfl, hz, q⟩ := h
    have nd := sc__law_number_error.nd
    refine ⟨_, (pss_cons (ps_try_as (i := 1) rfl rfl nd rfl rfl ⟨rfl, by decide, .inl T.e_F.g⟩ takes0
        (fun W pn xe tk _ => pss_one (ps_expr (pcallX (ok_read_number T) hr tk (pa_cons (pv 0) pa_nil))))
        (fun a oe cls d pn hz hf => pss_one (ps_ret (pe_and (pe_callB (call_isEx hz hf) (by rfl) T.b_isinstance b0_isinstance (pa_cons (pv 1) (pa_cons (pe_bltn (v := .ty "ValueError") (by rfl) T.b_ValueError b0_ValueError rfl) pa_nil))) (pe_one (pe_not (pe_callB (call_isEx hz hf) (by rfl) T.b_isinstance b0_isinstance (pa_cons (pv 1) (pa_cons (pe_glob (v := .ref cN) (by rfl) T.e_N.g rfl) pa_nil)))))))))
      (pss_one (ps_ret pe_bl))), ?_⟩
    refine ⟨.str z, rfl, z, rfl, hz, fun H' sm => ⟨fun n e => ?_, fun e => ⟨true, T.c_TF, fun _ a ha => ?_, fun q => nomatch q⟩⟩⟩
    · have := q H' sm
      rw [decide_eq_false (by rw [e]; simp)] at this
      exact this
    · have := q H' sm
      rw [decide_eq_true e] at this
      exact ⟨.ref a, rfl, cT, rfl, rfl, T.i_T, .ty "ValueError", .type "ValueError", true, rfl, fun u r => r, T.i_Tv, true, rfl, ⟨.ref a, rfl, cT, rfl, rfl, T.i_T, .ref cN, .ref cN, false, rfl, fun u r => r, T.i_TN, false, rfl, this⟩⟩
theorem sc__law_words_error : FnScope ["_law_text_here", "e"] ["_law_text_here"] (defScope s__law_words_error) := ⟨rfl, rfl, rfl, by decide +kernel, rfl, by decide +kernel, by decide +kernel⟩
def sp__law_words_error : Sp := fun vs H Q _ => ∃ z : Str, vs = [.str z] ∧ z.length ≤ 1000 ∧ ∀ H', Same H H' → Q (.bl (badB z)) H'
theorem ok__law_words_error (T : Txt K mg cF cN cT) : FOk P w K mg base CX0 "_law_words_error" ["_law_text_here"] 2 sp__law_words_error := by
  refine T._law_words_error.ok sc__law_words_error (fun vs H Q E h => ?_) (fun f cdv A outer s H vs Q E hr h => ?_)
  · obtain ⟨z, rfl, _⟩ := h
    rfl
  · obtain ⟨z, rfl, hz, q⟩ := h
    have nd := sc__law_words_error.nd
    refine ⟨_, (pss_cons (ps_try_as (i := 1) rfl rfl nd rfl rfl ⟨rfl, by decide, .inl T.e_F.g⟩ takes0
        (fun W pn xe tk _ => pss_one (ps_expr (pcallX (ok_split_words T) hr tk (pa_cons (pv 0) pa_nil))))
        (fun a oe cls d pn hz hf => pss_one (ps_ret (pe_and (pe_callB (call_isEx hz hf) (by rfl) T.b_isinstance b0_isinstance (pa_cons (pv 1) (pa_cons (pe_bltn (v := .ty "ValueError") (by rfl) T.b_ValueError b0_ValueError rfl) pa_nil))) (pe_one (pe_not (pe_callB (call_isEx hz hf) (by rfl) T.b_isinstance b0_isinstance (pa_cons (pv 1) (pa_cons (pe_glob (v := .ref cN) (by rfl) T.e_N.g rfl) pa_nil)))))))))
      (pss_one (ps_ret pe_bl))), ?_⟩
    refine ⟨.str z, rfl, z, rfl, hz, fun e H' sm => ⟨true, T.c_TF, fun _ a ha => ?_, fun q => nomatch q⟩, fun e p H' np sm hp => ?_⟩
    · have := q H' sm
      rw [e] at this
      exact ⟨.ref a, rfl, cT, rfl, rfl, T.i_T, .ty "ValueError", .type "ValueError", true, rfl, fun u r => r, T.i_Tv, true, rfl, ⟨.ref a, rfl, cT, rfl, rfl, T.i_T, .ref cN, .ref cN, false, rfl, fun u r => r, T.i_TN, false, rfl, this⟩⟩
    · have := q H' sm
      rw [e] at this
      exact this
theorem sc__law_good_words : FnScope ["_law_words", "_law_text_here", "_law_word"] ["_law_words", "_law_text_here"] (defScope s__law_good_words) := ⟨rfl, rfl, rfl, by decide +kernel, rfl, by decide +kernel, by decide +kernel⟩
def sp__law_good_words : Sp := fun vs H Q _ => ∃ (p : Addr) (z : Str), vs = [.ref p, .str z] ∧ z.length ≤ 1000 ∧ badB z = false ∧ H p = some (.lst ((Txt.split z blank).map V.str)) ∧ Q (.bl true) H
theorem ok__law_good_words (T : Txt K mg cF cN cT) : FOk P w K mg base CX0 "_law_good_words" ["_law_words", "_law_text_here"] 1 sp__law_good_words := by
  refine T._law_good_words.ok sc__law_good_words (fun vs H Q E h => ?_) (fun f cdv A outer s H vs Q E hr h => ?_)
  · obtain ⟨p, z, rfl, _⟩ := h
    rfl
  · obtain ⟨p, z, rfl, hz, hb, hp, q⟩ := h
    have nd := sc__law_good_words.nd
    refine ⟨_, (pss_cons (ps_if (PW.pt (pw_or (pt_not (pt_val (pe_callB call_isi (by rfl) T.b_isinstance b0_isinstance (pa_cons (pv 0) (pa_cons (pe_bltn (v := .ty "list") (by rfl) T.b_list b0_list rfl) pa_nil))))) (pw_or1 (pt_cmpR op_eq (pe_callB call_len (by rfl) T.b_len b0_len (pa_cons (pv 0) pa_nil)) pe_int (nomark _)))))
        (pss_one (ps_ret pe_bl))
        pss_nil)
      (pss_cons (ps_for PassesOwn.never rfl (pi_list (pv 0)) (pg_name (i := 2) nd rfl (Or.inl rfl))
        (pss_one (ps_if (PW.pt (pw_or (pt_not (pt_val (pe_callB call_isi (by rfl) T.b_isinstance b0_isinstance (pa_cons (pv 2) (pa_cons (pe_bltn (v := .ty "str") (by rfl) T.b_str b0_str rfl) pa_nil))))) (pw_or (pt_cmpR op_eq (pv 2) pe_str (nomark _)) (pw_or1 (pt_cmpR op_in_str pe_str (pv 2) (by rfl))))))
          (pss_one (ps_ret pe_bl))
          pss_nil)))
      (pss_one (ps_ret (pe_cmpR op_eq (pe_join pe_str (pv 0)) (pv 1) (nomark _)))))), ?_⟩
    have hne : (Txt.split z blank).length ≠ 0 := fun e => by
      have h1 := congrArg List.length (split_words_eq z)
      rw [List.length_map, e] at h1
      exact spl_ne (tl z) [] (List.length_eq_zero_iff.mp h1.symm)
    refine ⟨.ref p, rfl, .ref p, _, .type "list", _, true, rfl, .ty _, .base (.lst hp), kit_ty (by decide +kernel), true, rfl, bF rfl ?_⟩
    refine ⟨.ref p, rfl, .ref p, (Txt.split z blank).length, rfl, .inl ⟨_, SqL.of' hp, by rw [List.length_map]⟩, rfl, _, rfl, dF (fun e => hne (by have := V.int.inj e; omega)) ?_⟩
    refine ⟨.ref p, rfl, p, rfl, ⟨_, SqL.of' hp⟩, forL (xs := (Txt.split z blank).map V.str) (fun pre σ H' => (∃ y, σ = [some (.ref p), some (.str z), y]) ∧ H' = H) ⟨⟨none, rfl⟩, rfl⟩ (fun pre σ H' ⟨_, e⟩ => by rw [e]; exact SqL.of' hp) (fun pre x post σ H' e ⟨⟨y, eσ⟩, eH⟩ => ?_) (fun σ H' ⟨⟨y, eσ⟩, eH⟩ => ?_)⟩
    · subst eσ eH
      obtain ⟨u, hu, rfl⟩ : ∃ u ∈ Txt.split z blank, V.str u = x := List.mem_map.mp (by rw [e]; simp)
      refine ⟨.str u, rfl, .str u, _, .type "str", _, true, rfl, .ty _, .base (.str u), kit_ty (by decide +kernel), true, rfl, bF rfl ?_⟩
      refine ⟨.str u, rfl, rfl, _, rfl, dF (fun e => ?_) ?_⟩
      · have e' : u = Str.empty := V.str.inj e
        rw [e'] at hu
        have := (badB_iff z).mpr hu
        rw [hb] at this
        cases this
      · refine ⟨.str u, rfl, blank, u, rfl, rfl, _, rfl, ?_⟩
        exact bF (words_free z hu) ⟨⟨_, rfl⟩, rfl⟩
    · subst eσ eH
      refine ⟨⟨_, rfl⟩, .ref p, rfl, blank, p, Txt.split z blank, rfl, rfl, .inl (SqL.of' hp), ?_, .str z, rfl, rfl, ?_⟩
      · have h1 := words_sum z
        have h2 := words_len z
        have h3 : blank.length = 1 := by decide
        rw [h3]
        omega
      · rw [words_join z, decide_eq_true rfl]
        exact q
end
end My
set_option Elab.async false
set_option linter.all false
set_option maxRecDepth 100000
set_option autoImplicit false
set_option maxHeartbeats 4000000
namespace My
open PySem PySem.Spec PyProof.Rows L2 TL
theorem str_len (x y : Str) : (x ++ y).length = x.length + y.length := by
  rw [len_tl, len_tl, len_tl, tl_append, List.length_append]
theorem cut12 (z : Str) : (cutS z none (some 12)).length ≤ 12 := by
  show ((tl z).drop _ |>.take _).toArray.size ≤ 12
  rw [List.size_toArray, List.length_take]
  have h : HT.sIx z.length z.length (some 12) = min 12 z.length := HT.sIx_nat z.length z.length 12
  rw [h]
  omega
section
variable {P : Program} {w : World} {K : PySem.W.Frag} {mg : Str → Option Value} {base : Heap} {cF cN cT : Addr}
theorem sc__law_text : FnScope ["_law_draws_here", "_law_letters", "_law_signs", "_law_row", "_law_text_here", "_law_k", "_law_way", "_law_at"] ["_law_draws_here"] (defScope s__law_text) := ⟨rfl, rfl, rfl, by decide +kernel, rfl, by decide +kernel, by decide +kernel⟩
def sp__law_text : Sp := fun vs H Q _ => ∃ (a : Addr) (ds : List Int), vs = [.ref a] ∧ Dr H a ds ∧ ds.length ≤ 100000 ∧
  ∀ (z : Str) (ds' : List Int) (H' : Hp), z.length ≤ 12 → ds'.length ≤ ds.length → SameBut a H H' → Dr H' a ds' → Q (.str z) H'
def sg1 : Str := PySem.Str.ofString " !\"#$&'()*+,-./0123456789:;<=>?@ABCDEFGHIJKLMNOPQRSTUVWXYZ[\\]^_`"
def sgs : Str := sg1 ++ alpha ++ PySem.Str.ofString "{|}~"
def row1 : Str := digits ++ Txt.mul (PySem.Str.ofString "0") 5
def row2 : Str := alpha ++ Txt.mul (PySem.Str.ofString " ") 8
def row3 : Str := sgs ++ Txt.mul (PySem.Str.ofString " ") 20
theorem lens : alpha.length = 26 ∧ sgs.length = 94 ∧ row1.length = 15 ∧ row2.length = 34 ∧ row3.length = 114 := by decide +kernel
theorem ok__law_text (T : Txt K mg cF cN cT) : FOk P w K mg base CX0 "_law_text" ["_law_draws_here"] 3 sp__law_text := by
  refine T._law_text.ok sc__law_text (fun vs H Q E h => ?_) (fun f cdv A outer s H vs Q E hr h => ?_)
  · obtain ⟨a, ds, rfl, _⟩ := h
    rfl
  · obtain ⟨a, ds, rfl, hd, hl, q⟩ := h
    have nd := sc__law_text.nd
    refine ⟨_, (pss_cons (ps_set (i := 1) nd rfl (Or.inl rfl) pe_str)
      (pss_cons (ps_set (i := 2) nd rfl (Or.inl rfl) pe_str)
      (pss_cons (ps_set (i := 2) nd rfl (Or.inl rfl) (pe_op op_add_str (pe_op op_add_str (pv 2) (pv 1)) pe_str))
      (pss_cons (ps_set (i := 3) nd rfl (Or.inl rfl) (pcall (ok__law_pick T) hr (pa_cons (pv 0) (pa_cons (pe_lst (pa_cons (pv 1) (pa_cons (pe_op op_add_str pe_str (pe_op op_mul_str pe_str pe_int)) (pa_cons (pe_op op_add_str (pv 1) (pe_op op_mul_str pe_str pe_int)) (pa_cons (pe_op op_add_str (pv 2) (pe_op op_mul_str pe_str pe_int)) pa_nil))))) pa_nil))))
      (pss_cons (ps_set (i := 4) nd rfl (Or.inl rfl) pe_str)
      (pss_cons (ps_for PassesOwn.never rfl (pi_range1 (by rfl) T.b_range (pa_cons (pcall (ok__law_pick T) hr (pa_cons (pv 0) (pa_cons (pe_lst (pa_cons pe_int (pa_cons pe_int (pa_cons pe_int (pa_cons pe_int (pa_cons pe_int (pa_cons pe_int (pa_cons pe_int (pa_cons pe_int (pa_cons pe_int (pa_cons pe_int (pa_cons pe_int (pa_cons pe_int (pa_cons pe_int (pa_cons pe_int (pa_cons pe_int (pa_cons pe_int (pa_cons pe_int pa_nil)))))))))))))))))) pa_nil))) pa_nil)) (pg_name (i := 5) nd rfl (Or.inl rfl))
        (pss_one (ps_set (i := 4) nd rfl (Or.inl rfl) (pe_op op_add_str (pv 4) (pcall (ok__law_pick T) hr (pa_cons (pv 0) (pa_cons (pv 3) pa_nil)))))))
      (pss_cons (ps_set (i := 6) nd rfl (Or.inl rfl) (pcall (ok__law_draw T) hr (pa_cons (pv 0) (pa_cons pe_int pa_nil))))
      (pss_cons (ps_set (i := 7) nd rfl (Or.inl rfl) (pcall (ok__law_draw T) hr (pa_cons (pv 0) (pa_cons (pe_op op_add (pe_callB call_len (by rfl) T.b_len b0_len (pa_cons (pv 4) pa_nil)) pe_int) pa_nil))))
      (pss_cons (ps_if (pt_cmpR op_eq (pv 6) pe_int (nomark _))
        (pss_one (ps_set (i := 4) nd rfl (Or.inl rfl) (pe_op op_add_str (pe_op op_add_str (pe_slice sl_str (pv 4) po_none (po_some (pv 7))) (pcall (ok__law_pick T) hr (pa_cons (pv 0) (pa_cons (pv 2) pa_nil)))) (pe_slice sl_str (pv 4) (po_some (pv 7)) po_none))))
        pss_nil)
      (pss_cons (ps_if (pt_cmpR op_eq (pv 6) pe_int (nomark _))
        (pss_one (ps_set (i := 4) nd rfl (Or.inl rfl) (pe_op op_add_str (pe_op op_add_str (pe_slice sl_str (pv 4) po_none (po_some (pv 7))) (pcall (ok__law_pick T) hr (pa_cons (pv 0) (pa_cons (pv 2) pa_nil)))) (pe_slice sl_str (pv 4) (po_some (pe_op op_add (pv 7) pe_int)) po_none))))
        pss_nil)
      (pss_one (ps_ret (pe_slice sl_str (pv 4) po_none (po_some pe_int)))))))))))))), ?_⟩
    obtain ⟨l0, l1, l2, l3, l4⟩ := lens
    refine ⟨.str sg1, rfl, .str alpha, rfl, sg1, alpha, rfl, rfl, by decide +kernel, _, _, rfl, rfl, by decide +kernel, ?_⟩
    -- the row
    refine ⟨.ref a, rfl, .str alpha, rfl, PySem.Str.ofString "0", 5, rfl, rfl, by decide, by decide, by decide +kernel, digits, _, rfl, rfl, by decide +kernel, .str alpha, rfl, PySem.Str.ofString " ", 8, rfl, rfl, by decide, by decide, by decide +kernel, alpha, _, rfl, rfl, by decide +kernel,
      .str sgs, rfl, PySem.Str.ofString " ", 20, rfl, rfl, by decide, by decide, by decide +kernel, sgs, _, rfl, rfl, by decide +kernel, by show 4 ≤ sizeLine; decide, fun p np => ?_⟩
    have npa : p ≠ a := fun e => by rw [e, hd] at np; cases np
    refine ⟨a, ds, .ref p, [.str alpha, .str row1, .str row2, .str row3], rfl, by show upd _ _ _ _ = _; rw [upd_ne npa.symm]; exact hd, hl, .inl ⟨p, rfl, npa, SqL.of' upd_same⟩, by simp, fun v ds1 H1 hv hl1 s1' d1 => ?_⟩
    obtain ⟨row, rfl, hr0, hr1⟩ : ∃ row : Str, v = .str row ∧ 0 < row.length ∧ row.length ≤ 1000 := by
      simp only [List.mem_cons, List.not_mem_nil, or_false] at hv
      rcases hv with rfl | rfl | rfl | rfl
      · exact ⟨_, rfl, by omega, by omega⟩
      · exact ⟨_, rfl, by omega, by omega⟩
      · exact ⟨_, rfl, by omega, by omega⟩
      · exact ⟨_, rfl, by omega, by omega⟩
    have s1 : SameBut a H H1 := (SameBut.of (Same.new np)).trans s1'
    -- how many signs
    refine ⟨.ref a, rfl, by show 17 ≤ sizeLine; decide, fun p2 np2 => ?_⟩
    have npa2 : p2 ≠ a := fun e => by rw [e, show H1 a = _ from d1] at np2; cases np2
    refine ⟨a, ds1, .ref p2, [0, 1, 2, 3, 4, 5, 6, 7, 8, 9, 10, 11, 12, 6, 7, 8, 9].map V.int, rfl, by show upd _ _ _ _ = _; rw [upd_ne npa2.symm]; exact d1, by omega, .inl ⟨p2, rfl, npa2, SqL.of' upd_same⟩, by simp, fun v ds2 H2 hv hl2 s2 e_d2 => ?_⟩
    obtain ⟨m, rfl, hm0, hm1⟩ : ∃ m : Int, v = .int m ∧ 0 ≤ m ∧ m ≤ 12 := by
      obtain ⟨m, hm, rfl⟩ := List.mem_map.mp hv
      refine ⟨m, rfl, ?_⟩
      simp only [List.mem_cons, List.not_mem_nil, or_false] at hm
      omega
    refine ⟨m, rfl, by omega, by omega, for_range (lo := 0) (n := m.toNat) (fun i σ H' => ∃ (z : Str) (y5 : Option V) (ds' : List Int), σ = [some (.ref a), some (.str alpha), some (.str sgs), some (.str row), some (.str z), y5, none, none] ∧ z.length ≤ i ∧ ds'.length ≤ ds.length ∧ SameBut a H H' ∧ Dr H' a ds')
      ⟨PySem.Str.ofString "", none, ds2, rfl, by decide, by omega, s1.trans ((SameBut.of (Same.new np2)).trans s2), e_d2⟩ (fun i σ H' hi ⟨z, y5, ds', eσ, hz, hl', sm, hd'⟩ => ?_) (fun σ H' ⟨z, y5, ds', eσ, hz, hl', sm, hd'⟩ => ?_)⟩
    · subst eσ
      refine ⟨.str z, rfl, .ref a, rfl, .str row, rfl, a, ds', .str row, _, rfl, hd', by omega, .inr (.inr ⟨row, rfl, hr1, rfl⟩), ?_, fun v ds3 H3 hv hl3 s3 d3 => ?_⟩
      · intro e
        have h3 : 0 = row.length := by
          have := congrArg List.length e
          rw [List.length_map, show row.cps.toList.length = row.length from (len_tl row).symm] at this
          exact this.symm
        omega
      · obtain ⟨c, hc, rfl⟩ := List.mem_map.mp hv
        refine ⟨z, ⟨#[c]⟩, rfl, rfl, le1000 (by show z.length + 1 ≤ 1000; omega), z ++ ⟨#[c]⟩, _, ds3, rfl, ?_, by omega, sm.trans s3, d3⟩
        rw [str_len]
        show z.length + 1 ≤ i + 1
        omega
    · subst eσ
      -- way, at
      refine ⟨.ref a, rfl, a, ds', 4, rfl, hd', by decide, by omega, fun way ds3 H3 hw0 hw1 hl3 s3 d3 => ?_⟩
      refine ⟨.ref a, rfl, .str z, rfl, .str z, z.length, rfl, ⟨le1000 (by omega), rfl⟩, _, 1, rfl, rfl, a, ds3, z.length + 1, rfl, d3, by omega, by omega, fun at' ds4 H4 ha0 ha1 hl4 s4' d4 => ?_⟩
      have s4 : SameBut a H H4 := sm.trans (s3.trans s4')
      have fin : ∀ (z2 : Str) (ds' : List Int) (H' : Hp), z2.length ≤ 1000 → ds'.length ≤ ds.length → SameBut a H H' → Dr H' a ds' → z2.length ≤ sizeLine ∧ Q (.str (cutS z2 none (some 12))) H' := fun z2 ds' H' h1 h2 h3 h4 =>
        ⟨le1000 h1, q _ ds' H' (cut12 z2) h2 h3 h4⟩
      have hsg : (sgs.cps.toList.map fun c => V.str ⟨#[c]⟩) ≠ [] := fun e => by
        have h3 : 0 = sgs.length := by
          have := congrArg List.length e
          rw [List.length_map, show sgs.cps.toList.length = sgs.length from (len_tl sgs).symm] at this
          exact this.symm
        omega
      have cl : ∀ lo hi, (cutS z lo hi).length ≤ 12 := fun lo hi => Nat.le_trans (cutS_length z lo hi) (by omega)
      refine ⟨.int way, rfl, rfl, _, rfl, d2 (fun e2 => ?_) (fun e2 => ?_)⟩
      · refine ⟨.str z, rfl, .int at', rfl, at', rfl, z, rfl, le1000 (by omega), .ref a, rfl, .str sgs, rfl, a, ds4, .str sgs, _, rfl, d4, by omega, .inr (.inr ⟨sgs, rfl, by omega, rfl⟩), hsg, fun v ds5 H5 hv hl5 s5 d5 => ?_⟩
        obtain ⟨c, hc, rfl⟩ := List.mem_map.mp hv
        have c1 := cl none (some at')
        have c2 := cl (some at') none
        refine ⟨_, ⟨#[c]⟩, rfl, rfl, le1000 (by show _ + 1 ≤ 1000; omega), .str z, rfl, .int at', rfl, at', rfl, z, rfl, le1000 (by omega), _, _, rfl, rfl, le1000 (by rw [str_len]; show _ + 1 + _ ≤ 1000; omega), ?_⟩
        refine ⟨.int way, rfl, rfl, _, rfl, dF (fun e => ?_) ⟨_, rfl, 12, rfl, _, rfl, fin _ ds5 _ (by rw [str_len, str_len]; show _ + 1 + _ ≤ 1000; omega) (by omega) (s4.trans s5) d5⟩⟩
        rw [V.int.inj e2] at e
        cases e
      · refine ⟨.int way, rfl, rfl, _, rfl, d2 (fun e3 => ?_) (fun e3 => ⟨_, rfl, 12, rfl, _, rfl, fin z ds4 _ (by omega) (by omega) s4 d4⟩)⟩
        refine ⟨.str z, rfl, .int at', rfl, at', rfl, z, rfl, le1000 (by omega), .ref a, rfl, .str sgs, rfl, a, ds4, .str sgs, _, rfl, d4, by omega, .inr (.inr ⟨sgs, rfl, by omega, rfl⟩), hsg, fun v ds5 H5 hv hl5 s5 d5 => ?_⟩
        obtain ⟨c, hc, rfl⟩ := List.mem_map.mp hv
        have c1 := cl none (some at')
        have c2 := cl (some (at' + 1)) none
        exact ⟨_, ⟨#[c]⟩, rfl, rfl, le1000 (by show _ + 1 ≤ 1000; omega), .str z, rfl, .int at', rfl, at', 1, rfl, rfl, at' + 1, rfl, z, rfl, le1000 (by omega), _, _, rfl, rfl, le1000 (by rw [str_len]; show _ + 1 + _ ≤ 1000; omega),
          ⟨_, rfl, 12, rfl, _, rfl, fin _ ds5 _ (by rw [str_len, str_len]; show _ + 1 + _ ≤ 1000; omega) (by omega) (s4.trans s5) d5⟩⟩
end
end My
set_option Elab.async false
set_option linter.all false
set_option maxRecDepth 100000
set_option autoImplicit false
set_option maxHeartbeats 4000000
namespace My
open PySem PySem.Spec PyProof.Rows L2 TL Evl
section
variable {P : Program} {w : World} {K : PySem.W.Frag} {mg : Str → Option Value} {base : Heap} {cF cN cT : Addr}
theorem sc_law : FnScope ["_law_script", "_law_draws_here", "_law_first", "_law_second", "_law_text_here", "_law_good", "_law_number_here", "_law_bad", "_law_raised", "_law_words"] ["_law_script"] (defScope s_law) := ⟨rfl, rfl, rfl, by decide +kernel, rfl, by decide +kernel, by decide +kernel⟩
theorem plain_opt (n : Option Int) : plain (optV n) = true := by cases n <;> rfl
theorem opt_non (n : Option Int) : decide (optV n = .non) = decide (n = none) := by cases n <;> rfl
def sp_law (K : PySem.W.Frag) : Sp := fun vs H Q _ => ∃ (a : Addr) (ns : List Int), vs = [.ref a] ∧ SqL K H a (ns.map V.int) ∧ ns.length ≤ 63 ∧ (∀ z ∈ ns, Builtin.Int.intBits z ≤ 1048576) ∧ ∀ H', Q (.bl true) H'
theorem ok_law (T : Txt K mg cF cN cT) (hself : FOk P w K mg base CX0 "_law_same" ["_law_actual", "_law_due"] 0 (fun _ _ _ _ => False)) : FOk P w K mg base CX0 "law" ["_law_script"] 5 (sp_law K) := by
  refine T.law.ok sc_law (fun vs H Q E h => ?_) (fun f cdv A outer s H vs Q E hr h => ?_)
  · obtain ⟨a, ns, rfl, _⟩ := h
    rfl
  · obtain ⟨a, ns, rfl, hS, hlen, hb, q⟩ := h
    have nd := sc_law.nd
    refine ⟨_, (pss_cons (ps_set (i := 1) nd rfl (Or.inl rfl) (pcall (ok__law_draws T) hr (pa_cons (pv 0) pa_nil)))
      (pss_cons (ps_set (i := 2) nd rfl (Or.inl rfl) (pcall (ok__law_text T) hr (pa_cons (pv 1) pa_nil)))
      (pss_cons (ps_set (i := 3) nd rfl (Or.inl rfl) (pcall (ok__law_text T) hr (pa_cons (pv 1) pa_nil)))
      (pss_cons (ps_for PassesOwn.never rfl (pi_list (pe_lst (pa_cons (pv 2) (pa_cons (pv 3) (pa_cons (pv 2) pa_nil))))) (pg_name (i := 4) nd rfl (Or.inl rfl))
        (pss_cons (ps_set (i := 5) nd rfl (Or.inl rfl) (pcall (ok__law_is_name T) hr (pa_cons (pv 4) pa_nil)))
        (pss_cons (ps_if (pt_not (pt_val (pcall (ok__law_same T hself) hr (pa_cons (pcall (ok_is_name T) hr (pa_cons (pv 4) pa_nil)) (pa_cons (pv 5) pa_nil)))))
          (pss_one (ps_ret pe_bl))
          pss_nil)
        (pss_cons (ps_if (pt_not (pt_val (pcall (ok__law_same T hself) hr (pa_cons (pcall (ok__law_checked T) hr (pa_cons (pv 4) pa_nil)) (pa_cons (pe_ifExp (pt_val (pv 5)) (pv 4) pe_non) pa_nil)))))
          (pss_one (ps_ret pe_bl))
          pss_nil)
        (pss_cons (ps_if (PW.pt (pw_and (pt_not (pt_val (pv 5))) (pw_and1 (pt_not (pt_val (pcall (ok__law_name_error T) hr (pa_cons (pv 4) pa_nil)))))))
          (pss_one (ps_ret pe_bl))
          pss_nil)
        (pss_cons (ps_set (i := 6) nd rfl (Or.inl rfl) (pcall (ok__law_number T) hr (pa_cons (pv 4) pa_nil)))
        (pss_cons (ps_if (pt_not (pt_val (pcall (ok__law_same T hself) hr (pa_cons (pcall (ok__law_read T) hr (pa_cons (pv 4) pa_nil)) (pa_cons (pv 6) pa_nil)))))
          (pss_one (ps_ret pe_bl))
          pss_nil)
        (pss_cons (ps_if (PW.pt (pw_and (pt_cmpR op_isN (pv 6) pe_non (nomark _)) (pw_and1 (pt_not (pt_val (pcall (ok__law_number_error T) hr (pa_cons (pv 4) pa_nil)))))))
          (pss_one (ps_ret pe_bl))
          pss_nil)
        (pss_cons (ps_set (i := 7) nd rfl (Or.inl rfl) (pe_or (pe_cmpR op_eq (pv 4) pe_str (nomark _)) (pe_or (pe_m1 PySem.F.slot_str_startswith PySem.F.type_str_startswith mt_startswith (pv 4) pe_str) (pe_or (pe_m1 PySem.F.slot_str_endswith PySem.F.type_str_endswith mt_endswith (pv 4) pe_str) (pe_one (pe_cmpR op_in_str pe_str (pv 4) (by rfl)))))))
        (pss_cons (ps_set (i := 8) nd rfl (Or.inl rfl) pe_bl)
        (pss_cons (ps_set (i := 9) nd rfl (Or.inl rfl) pe_non)
        (pss_cons (ps_try_only rfl rfl ⟨rfl, by decide, .inl T.e_T.g⟩ takes0
          (fun W pn xe tk _ => pss_one (ps_set (i := 9) nd rfl (Or.inl rfl) (pcallX (ok_split_words T) hr tk (pa_cons (pv 4) pa_nil))))
          (fun a oe cls d pn _ _ => pss_one (ps_set (i := 8) nd rfl (Or.inl rfl) pe_bl)))
        (pss_cons (ps_if (pt_cmpR op_ne (pv 8) (pv 7) (nomark _))
          (pss_one (ps_ret pe_bl))
          pss_nil)
        (pss_cons (ps_if (PW.pt (pw_and (pt_val (pv 7)) (pw_and1 (pt_not (pt_val (pcall (ok__law_words_error T) hr (pa_cons (pv 4) pa_nil)))))))
          (pss_one (ps_ret pe_bl))
          pss_nil)
        (pss_one (ps_if (pt_not (pt_val (pv 7)))
          (pss_cons (ps_if (pt_not (pt_val (pcall (ok__law_good_words T) hr (pa_cons (pv 9) (pa_cons (pv 4) pa_nil)))))
            (pss_one (ps_ret pe_bl))
            pss_nil)
          (pss_one (ps_expr (pe_bm PySem.F.plainAttrs_list PySem.F.slot_list_append PySem.F.type_list_append mt_append (pv 9) (pa_cons (pv 4) pa_nil)))))
          pss_nil))))))))))))))))
      (pss_one (ps_ret pe_bl)))))), ?_⟩
    refine ⟨.ref a, rfl, a, ns, rfl, hS, hlen, hb, fun dr ds H1 ndr sm1 hd1 hl1 => ?_⟩
    refine ⟨.ref dr, rfl, dr, ds, rfl, hd1, by omega, fun z1 ds2 H2 hz1 hl2 sm2 hd2 => ?_⟩
    refine ⟨.ref dr, rfl, dr, ds2, rfl, hd2, by omega, fun z2 ds3 H3 hz2 hl3 sm3 hd3 => ?_⟩
    refine ⟨.str z1, rfl, .str z2, rfl, .str z1, rfl, by show 3 ≤ sizeLine; decide, fun p np => ?_⟩
    refine ⟨p, rfl, ⟨_, SqL.of' upd_same⟩, forL (xs := [.str z1, .str z2, .str z1]) (fun pre σ H' => (∃ y4 y5 y6 y7 y8 y9, σ = [some (.ref a), some (.ref dr), some (.str z1), some (.str z2), y4, y5, y6, y7, y8, y9]) ∧ H' p = some (.lst [.str z1, .str z2, .str z1]))
      ⟨⟨none, none, none, none, none, none, rfl⟩, upd_same⟩ (fun pre σ H' ⟨_, e⟩ => SqL.of' e) (fun pre x post σ H4 e ⟨⟨y4, y5, y6, y7, y8, y9, eσ⟩, hp⟩ => ?_) (fun σ H' ⟨⟨y4, y5, y6, y7, y8, y9, eσ⟩, hp⟩ => ?_)⟩
    · subst eσ
      obtain ⟨z, hz, rfl⟩ : ∃ z : Str, z.length ≤ 12 ∧ x = .str z := by
        have hx : x ∈ [V.str z1, .str z2, .str z1] := by rw [e]; simp
        simp only [List.mem_cons, List.not_mem_nil, or_false] at hx
        rcases hx with h | h | h
        · exact ⟨z1, hz1, h⟩
        · exact ⟨z2, hz2, h⟩
        · exact ⟨z1, hz1, h⟩
      have hz' : z.length ≤ 1000 := by omega
      have v_is : ∀ {σ : L2.St} {H}, σ[4]? = some (some (.str z)) → Evl.Ev (tCall sp_is_name [] E0 (tCons (tVar 4) tNil)) σ H (.bl (isName z)) := fun h H1 _ Q q => ⟨.str z, h, z, rfl, hz', q⟩
      have v_ck : ∀ {σ : L2.St} {H}, σ[4]? = some (some (.str z)) → Evl.Ev (tCall sp__law_checked [] E0 (tCons (tVar 4) tNil)) σ H (if isName z = true then .str z else .non) := fun h H1 _ Q q => ⟨.str z, h, z, rfl, hz', q⟩
      have v_ne : ∀ {σ : L2.St} {H}, σ[4]? = some (some (.str z)) → Evl.Ev (tCall sp__law_name_error [] E0 (tCons (tVar 4) tNil)) σ H (.bl (!isName z)) := fun h H1 _ Q q => ⟨.str z, h, z, rfl, hz', q⟩
      have v_rd : ∀ {σ : L2.St} {H}, σ[4]? = some (some (.str z)) → Evl.Ev (tCall sp__law_read [] E0 (tCons (tVar 4) tNil)) σ H (optV (numOf z)) := fun h H1 _ Q q => ⟨.str z, h, z, rfl, hz', q⟩
      have v_nu : ∀ {σ : L2.St} {H}, σ[4]? = some (some (.str z)) → Evl.Ev (tCall sp__law_number_error [] E0 (tCons (tVar 4) tNil)) σ H (.bl (decide (numOf z = none))) := fun h H1 _ Q q => ⟨.str z, h, z, rfl, hz', q⟩
      have v_we : ∀ {σ : L2.St} {H}, σ[4]? = some (some (.str z)) → Evl.Ev (tCall sp__law_words_error [] E0 (tCons (tVar 4) tNil)) σ H (.bl (badB z)) := fun h H1 _ Q q => ⟨.str z, h, z, rfl, hz', q⟩
      have v_same : ∀ {σ : L2.St} {H} {t1 t2 : TE} {x y : V}, plain x = true → plain y = true → Evl.Ev t1 σ H x → Evl.Ev t2 σ H y → Evl.Ev (tCall sp__law_same [] E0 (tCons t1 (tCons t2 tNil))) σ H (.bl (decide (x = y))) := fun hx hy h1 h2 H1 e Q q =>
        h1 H1 e _ fun H2 e2 => h2 H2 (e.trans e2) _ fun H3 e3 => ⟨_, _, rfl, hx, hy, q H3 (e2.trans e3)⟩
      -- names
      refine ⟨.str z, rfl, z, rfl, hz', ?_⟩
      refine s_if (b := false) (et_is (et_not (et_B (v_same (x := .bl (isName z)) (y := .bl (isName z)) rfl rfl (v_is rfl) (ev_var rfl)))) (by rw [decide_eq_true rfl]; rfl)) (fun h => nomatch h) (fun _ H5 sm5 => ?_)
      have hpl : plain (if isName z = true then V.str z else V.non) = true := by split <;> rfl
      refine s_if (b := false) (et_is (et_not (et_B (v_same (x := if isName z = true then V.str z else V.non) (y := if isName z = true then V.str z else V.non) hpl hpl (v_ck rfl) (ev_if (et_B (ev_var rfl)) (fun h => ev_is (ev_var rfl) (by rw [if_pos h])) (fun h => ev_is ev_c (by rw [if_neg (by rw [h]; exact Bool.false_ne_true)])))))) (by rw [decide_eq_true rfl]; rfl)) (fun h => nomatch h) (fun _ H6 sm6 => ?_)
      refine s_if (b := false) (et_is (et_and (et_not (et_B (ev_var rfl))) (fun _ => et_not (et_B (v_ne rfl)))) (by cases isName z <;> rfl)) (fun h => nomatch h) (fun _ H7 sm7 => ?_)
      -- numbers
      refine ⟨.str z, rfl, z, rfl, hz, ?_⟩
      refine s_if (b := false) (et_is (et_not (et_B (v_same (x := optV (numOf z)) (y := optV (numOf z)) (plain_opt _) (plain_opt _) (v_rd rfl) (ev_var rfl)))) (by rw [decide_eq_true rfl]; rfl)) (fun h => nomatch h) (fun _ H8 sm8 => ?_)
      refine s_if (b := false) (et_is (et_and (et_test (ev_op (ev_var rfl) ev_c rv_isN)) (fun _ => et_not (et_B (v_nu rfl)))) (by rw [opt_non]; cases decide (numOf z = none) <;> rfl)) (fun h => nomatch h) (fun _ H9 sm9 => ?_)
      -- words
      have v_st : ∀ {σ : L2.St} {H}, σ[4]? = some (some (.str z)) → Evl.Ev (tM1 (fun x xs H Q => ∃ a b, x = .str a ∧ xs = [.str b] ∧ Q (.bl (Txt.startswith a b)) H) (tVar 4) (tC (.str blank))) σ H (.bl (Txt.startswith z blank)) := fun h H1 _ Q q => ⟨.str z, h, ⟨z, rfl⟩, z, blank, rfl, rfl, q H1 (Evl.Ex.refl _)⟩
      have v_en : ∀ {σ : L2.St} {H}, σ[4]? = some (some (.str z)) → Evl.Ev (tM1 (fun x xs H Q => ∃ a b, x = .str a ∧ xs = [.str b] ∧ Q (.bl (Txt.endswith a b)) H) (tVar 4) (tC (.str blank))) σ H (.bl (Txt.endswith z blank)) := fun h H1 _ Q q => ⟨.str z, h, ⟨z, rfl⟩, z, blank, rfl, rfl, q H1 (Evl.Ex.refl _)⟩
      refine s_asg (v := .bl (badB z)) (ev_is (ev_orV (ev_op (x := .str z) (y := .str Str.empty) (ev_var rfl) ev_c (rv_eq rfl)) (fun _ => ev_orV (v_st rfl) (fun _ => ev_orV (v_en rfl) (fun _ => ev_op ev_c (ev_var rfl) rv_inStr))))
        (by unfold badB; rw [← has2_iff, show decide (V.str z = V.str Str.empty) = decide (z = Str.empty) from decide_eq_decide.mpr ⟨fun e => V.str.inj e, fun e => by rw [e]⟩]; rfl)) (fun H10 sm10 => ?_)
      have hp10 : H10 p = some (.lst [.str z1, .str z2, .str z1]) := sm10 _ _ (sm9 _ _ (sm8 _ _ (sm7 _ _ (sm6 _ _ (sm5 _ _ hp)))))
      cases hbd : badB z with
      | true =>
        refine ⟨.str z, rfl, z, rfl, hz', fun _ H11 sm11 => ⟨true, T.c_TT, fun _ a ha => ?_, fun q => nomatch q⟩, fun e => ?_⟩
        · refine s_if (b := false) (et_is (et_test (ev_op (ev_var rfl) (ev_var rfl) (rv_ne rfl))) (by rfl)) (fun h => nomatch h) (fun _ H12 sm12 => ?_)
          refine s_if (b := false) (et_is (et_and (et_B (ev_var rfl)) (fun _ => et_not (et_B (v_we rfl)))) (by rw [hbd]; rfl)) (fun h => nomatch h) (fun _ H13 sm13 => ?_)
          refine s_if (b := false) (et_is (et_not (et_B (ev_var rfl))) (by rfl)) (fun h => nomatch h) (fun _ H14 sm14 => ?_)
          exact ⟨⟨_, _, _, _, _, _, rfl⟩, sm14 _ _ (sm13 _ _ (sm12 _ _ (sm11 _ _ hp10)))⟩
        · rw [hbd] at e; cases e
      | false =>
        refine ⟨.str z, rfl, z, rfl, hz', fun e => ?_, fun _ p2 H11 np2 sm11 hp2 => ?_⟩
        · rw [hbd] at e; cases e
        · have hpp : p ≠ p2 := fun e => by rw [← e, hp10] at np2; cases np2
          refine s_if (b := false) (et_is (et_test (ev_op (ev_var rfl) (ev_var rfl) (rv_ne rfl))) (by rfl)) (fun h => nomatch h) (fun _ H12 sm12 => ?_)
          refine s_if (b := false) (et_is (et_and (a := false) (b := false) (et_B (ev_var rfl)) (fun h => nomatch h)) (by rfl)) (fun h => nomatch h) (fun _ H13 sm13 => ?_)
          refine s_if (b := true) (et_is (et_not (et_B (ev_var rfl))) (by rfl)) (fun _ H14 sm14 => ?_) (fun h => nomatch h)
          have hp14 : H14 p2 = some (.lst ((Txt.split z blank).map V.str)) := sm14 _ _ (sm13 _ _ (sm12 _ _ hp2))
          refine ⟨.ref p2, rfl, .str z, rfl, p2, z, rfl, hz', hbd, hp14, _, rfl, bF rfl ?_⟩
          have hwl := words_len z
          refine ⟨.ref p2, rfl, .inl ⟨rfl, _, SqL.of' hp14⟩, .str z, rfl, p2, _, _, rfl, rfl, hp14, lt100k (by rw [List.length_map]; omega), ⟨_, _, _, _, _, _, rfl⟩, ?_⟩
          rw [upd_ne hpp]
          exact sm14 _ _ (sm13 _ _ (sm12 _ _ (sm11 _ _ hp10)))
    · subst eσ
      exact q _
end
end My
set_option Elab.async false
set_option linter.all false
set_option maxRecDepth 100000
set_option autoImplicit false
set_option maxHeartbeats 4000000
namespace My
open PySem PySem.Spec PyProof.Rows L2 TL
/-! ### what the top has written -/
structure DefAt (K : PySem.W.Frag) (x : Str) (st : Stmt) : Prop where
  ex : ∃ (f : Addr) (oc : Value) (od an : Option Addr) (osl : Array (Option Value)) (kV doc pm cdv ct : Value),
    PySem.W.nsIn K mainGlobals x = some (some (.ref f)) ∧ K.lookup f = some ⟨oc, od, .func (PySem.W.fnOf x x (defArgs st) (defBody st) (defScope st) .none kV doc pm an cdv ct), osl⟩ ∧ PySem.W.codeIn K cdv x = true ∧ PySem.W.keepIn K (.ref f) = true
section
variable {K : PySem.W.Frag} {mg : Str → Option Value} {h : Heap}
theorem defAt {x : Str} {st : Stmt} {f : Addr} {oc : Value} {od an : Option Addr} {osl : Array (Option Value)} {kV doc pm cdv ct : Value} (a : PySem.W.nsIn K mainGlobals x = some (some (.ref f)))
    (l : K.lookup f = some ⟨oc, od, .func (PySem.W.fnOf x x (defArgs st) (defBody st) (defScope st) .none kV doc pm an cdv ct), osl⟩) (c : PySem.W.codeIn K cdv x = true) (k : PySem.W.keepIn K (.ref f) = true) : DefAt K x st :=
  ⟨f, oc, od, an, osl, kV, doc, pm, cdv, ct, a, l, c, k⟩
theorem DefAt.fn (X : K.In h) (G : h.Ns mainGlobals mg) {x : Str} {st : Stmt} {ps : List Str} (D : DefAt K x st)
    (b : ∀ (kV doc pm : Value) (an : Option Addr) (cdv ct : Value) (us : List Value), us.length = ps.length → bindArgs (PySem.W.fnOf x x (defArgs st) (defBody st) (defScope st) .none kV doc pm an cdv ct) ⟨us, []⟩ = pure (ps.zip us)) : Fn K mg x st ps := by
  obtain ⟨f, oc, od, an, osl, kV, doc, pm, cdv, ct, a, l, c, k⟩ := D.ex
  exact fn_at X G a l c k b
/-- an own error class -/
structure ExcAt (K : PySem.W.Frag) (x : Str) (C : Addr) : Prop where
  a : PySem.W.nsIn K mainGlobals x = some (some (.ref C))
  ex : PySem.W.excIn K C [.type "ValueError", .type "Exception", .type "BaseException", .type "object"] "ValueError.__new__" = true
  kp : PySem.W.keepIn K (.ref C) = true
  sb : PySem.W.subIn K (.ref C) (.type "BaseException") = some true
  ty : PySem.W.typeIn K (.ref C) = some (.type "type")
theorem ExcAt.mk' (X : K.In h) (G : h.Ns mainGlobals mg) {x : Str} {C : Addr} (E : ExcAt K x C) : ExcT K mg x C := ⟨PySem.W.mg_of X G E.a, E.ex, E.kp, E.sb, E.ty⟩
/-- except D, an error of the class at C -/
theorem exm_of' {C D : Addr} {b : Bool} (h1 : PySem.W.subIn K (.ref D) (.type "BaseException") = some true) (h2 : PySem.W.isClsIn K D = true) (h3 : PySem.W.typeIn K (.ref D) = some (.type "type")) (h4 : PySem.W.subIn K (.ref C) (.ref D) = some b) :
    PySem.W.exmOne K (.ref C) (.ref D) = some b := by
  have e1 : (PySem.W.subIn K (.ref D) (.type "BaseException") == some true) = true := by rw [h1] <;> rfl
  have e2 : ((PySem.W.clsIn K D).isSome && PySem.W.typeIn K (.ref D) == some (.type "type")) = true := by
    have h2' : (PySem.W.clsIn K D).isSome = true := h2
    rw [h2', h3] <;> rfl
  show (if (PySem.W.subIn K (.ref D) (.type "BaseException") == some true) = true then (if ((PySem.W.clsIn K D).isSome && PySem.W.typeIn K (.ref D) == some (.type "type")) = true then PySem.W.subIn K (.ref C) (.ref D) else none) else none) = some b
  rw [if_pos e1, if_pos e2]
  exact h4
theorem kit_not {C D : Addr} (h2 : PySem.W.isClsIn K D = true) (h3 : PySem.W.typeIn K (.ref D) = some (.type "type")) (h4 : PySem.W.subIn K (.ref C) (.ref D) = some false) (h5 : PySem.W.subIn K (.ref C) (.ref C) = some true) :
    PySem.W.kitOne K (.ref C) (.ref D) = some false := by
  have ne : (Value.ref C == Value.ref D) = false := by
    cases e : (Value.ref C == Value.ref D) with
    | false => rfl
    | true =>
      have e' : Value.ref C = Value.ref D := by simpa using e
      rw [← e', h5] at h4
      cases h4
  have e2 : ((PySem.W.clsIn K D).isSome && PySem.W.typeIn K (.ref D) == some (.type "type")) = true := by
    have h2' : (PySem.W.clsIn K D).isSome = true := h2
    rw [h2', h3] <;> rfl
  unfold PySem.W.kitOne
  rw [ne, if_neg Bool.false_ne_true]
  show (if ((PySem.W.clsIn K D).isSome && PySem.W.typeIn K (.ref D) == some (.type "type")) = true then PySem.W.subIn K (.ref C) (.ref D) else none) = some false
  rw [if_pos e2]
  exact h4
theorem kit_ve {C : Addr} (h4 : PySem.W.subIn K (.ref C) (.type "ValueError") = some true) : PySem.W.kitOne K (.ref C) (.type "ValueError") = some true := by
  unfold PySem.W.kitOne
  rw [if_neg (by intro z; cases z)]
  show (if PySem.W.kitMeta "ValueError" = true then PySem.W.subIn K (.ref C) (.type "ValueError") else none) = some true
  rw [if_pos (by decide +kernel)]
  exact h4
/-- built-in names that the top leaves alone -/
structure Free (K : PySem.W.Frag) : Prop where
  z1 : PySem.W.nsIn K mainGlobals "len" = some none
  z2 : PySem.W.nsIn K mainGlobals "int" = some none
  z3 : PySem.W.nsIn K mainGlobals "range" = some none
  z4 : PySem.W.nsIn K mainGlobals "isinstance" = some none
  z5 : PySem.W.nsIn K mainGlobals "bool" = some none
  z6 : PySem.W.nsIn K mainGlobals "str" = some none
  z7 : PySem.W.nsIn K mainGlobals "tuple" = some none
  z8 : PySem.W.nsIn K mainGlobals "list" = some none
  z9 : PySem.W.nsIn K mainGlobals "all" = some none
  z10 : PySem.W.nsIn K mainGlobals "ValueError" = some none
structure Errs (K : PySem.W.Frag) (cF cN cT : Addr) : Prop where
  c1 : PySem.W.exmOne K (.ref cN) (.ref cF) = some true
  c2 : PySem.W.exmOne K (.ref cT) (.ref cF) = some true
  c3 : PySem.W.exmOne K (.ref cN) (.ref cN) = some true
  c4 : PySem.W.exmOne K (.ref cT) (.ref cT) = some true
  i1 : ExcC K cN
  i2 : ExcC K cT
  i3 : PySem.W.kitOne K (.ref cN) (.type "ValueError") = some true
  i4 : PySem.W.kitOne K (.ref cT) (.type "ValueError") = some true
  i5 : PySem.W.kitOne K (.ref cN) (.ref cT) = some false
  i6 : PySem.W.kitOne K (.ref cT) (.ref cN) = some false
theorem all_mk {l : PySem.W.OpenLaw} {w : World} {fa cF cN cT : Addr} {t8 t6 : Tok} (X : K.In h) (G : h.Ns mainGlobals mg) (hfa : mg "law" = some (.ref fa))
    (eF : ExcAt K "FormroadsError" cF) (eN : ExcAt K "InvalidName" cN) (eT : ExcAt K "InvalidText" cT) (er : Errs K cF cN cT) (fr : Free K)
    (k8 : PySem.W.nsIn K mainGlobals "_LONGEST_NAME" = some (some (.int 8 t8))) (k6 : PySem.W.nsIn K mainGlobals "_MOST_DIGITS" = some (some (.int 6 t6)))
    (d1 : DefAt K "is_name" s_is_name) (d2 : DefAt K "check_name" s_check_name) (d3 : DefAt K "read_number" s_read_number) (d4 : DefAt K "split_words" s_split_words)
    (d5 : DefAt K "_law_draws" s__law_draws) (d6 : DefAt K "_law_draw" s__law_draw) (d7 : DefAt K "_law_pick" s__law_pick) (d8 : DefAt K "_law_same" s__law_same) (d9 : DefAt K "_law_text" s__law_text)
    (d10 : DefAt K "_law_is_name" s__law_is_name) (d11 : DefAt K "_law_number" s__law_number) (d12 : DefAt K "_law_checked" s__law_checked) (d13 : DefAt K "_law_read" s__law_read)
    (d14 : DefAt K "_law_name_error" s__law_name_error) (d15 : DefAt K "_law_number_error" s__law_number_error) (d16 : DefAt K "_law_words_error" s__law_words_error) (d17 : DefAt K "_law_good_words" s__law_good_words) (d18 : DefAt K "law" s_law) :
    ∃ fd : FuncData, (∀ (s : Shared) (v : Value), BindsTo s fd ⟨[v], []⟩ [("_law_script", v)]) ∧ ∀ base : Heap, K.In base → base.Ns mainGlobals mg → FnOk l.prog w K mg base CX0 5 fa fd ["_law_script"] (sp_law K) := by
  have T : Txt K mg cF cN cT := {
    e_F := eF.mk' X G, e_N := eN.mk' X G, e_T := eT.mk' X G
    c_NF := er.c1, c_TF := er.c2, c_NN := er.c3, c_TT := er.c4, i_N := er.i1, i_T := er.i2, i_Nv := er.i3, i_Tv := er.i4, i_NT := er.i5, i_TN := er.i6
    k_LONGEST := ⟨_, PySem.W.mg_of X G k8⟩, k_DIGITS := ⟨_, PySem.W.mg_of X G k6⟩
    is_name := d1.fn X G fun _ _ _ _ _ _ us hl => match us, hl with | [_], _ => rfl
    check_name := d2.fn X G fun _ _ _ _ _ _ us hl => match us, hl with | [_], _ => rfl
    read_number := d3.fn X G fun _ _ _ _ _ _ us hl => match us, hl with | [_], _ => rfl
    split_words := d4.fn X G fun _ _ _ _ _ _ us hl => match us, hl with | [_], _ => rfl
    _law_draws := d5.fn X G fun _ _ _ _ _ _ us hl => match us, hl with | [_], _ => rfl
    _law_draw := d6.fn X G fun _ _ _ _ _ _ us hl => match us, hl with | [_, _], _ => rfl
    _law_pick := d7.fn X G fun _ _ _ _ _ _ us hl => match us, hl with | [_, _], _ => rfl
    _law_same := d8.fn X G fun _ _ _ _ _ _ us hl => match us, hl with | [_, _], _ => rfl
    _law_text := d9.fn X G fun _ _ _ _ _ _ us hl => match us, hl with | [_], _ => rfl
    _law_is_name := d10.fn X G fun _ _ _ _ _ _ us hl => match us, hl with | [_], _ => rfl
    _law_number := d11.fn X G fun _ _ _ _ _ _ us hl => match us, hl with | [_], _ => rfl
    _law_checked := d12.fn X G fun _ _ _ _ _ _ us hl => match us, hl with | [_], _ => rfl
    _law_read := d13.fn X G fun _ _ _ _ _ _ us hl => match us, hl with | [_], _ => rfl
    _law_name_error := d14.fn X G fun _ _ _ _ _ _ us hl => match us, hl with | [_], _ => rfl
    _law_number_error := d15.fn X G fun _ _ _ _ _ _ us hl => match us, hl with | [_], _ => rfl
    _law_words_error := d16.fn X G fun _ _ _ _ _ _ us hl => match us, hl with | [_], _ => rfl
    _law_good_words := d17.fn X G fun _ _ _ _ _ _ us hl => match us, hl with | [_, _], _ => rfl
    law := d18.fn X G fun _ _ _ _ _ _ us hl => match us, hl with | [_], _ => rfl
    b_len := PySem.W.mg_none_of X G fr.z1, b_int := PySem.W.mg_none_of X G fr.z2, b_range := PySem.W.mg_none_of X G fr.z3, b_isinstance := PySem.W.mg_none_of X G fr.z4, b_bool := PySem.W.mg_none_of X G fr.z5, b_str := PySem.W.mg_none_of X G fr.z6
    b_tuple := PySem.W.mg_none_of X G fr.z7, b_list := PySem.W.mg_none_of X G fr.z8, b_all := PySem.W.mg_none_of X G fr.z9, b_ValueError := PySem.W.mg_none_of X G fr.z10 }
  obtain ⟨f, oc, od, an, osl, kV, doc, pm, cdv, ct, a, lk, c, k⟩ := d18.ex
  have e := hfa.symm.trans (PySem.W.mg_of X G a)
  cases e
  refine ⟨PySem.W.fnOf "law" "law" (defArgs s_law) (defBody s_law) (defScope s_law) .none kV doc pm an cdv ct, fun s v => .of_eq rfl, fun base _ _ => ?_⟩
  have hself : FOk l.prog w K mg base CX0 "_law_same" ["_law_actual", "_law_due"] 0 (fun _ _ _ _ => False) := by
    obtain ⟨f2, fd2, g2, F2, b2⟩ := T._law_same.ex
    exact ⟨f2, fd2, g2, F2.kp, F2.at', b2, ⟨fun _ _ _ _ z => z.elim, fun _ _ _ _ _ _ _ _ _ _ _ _ _ z => z.elim⟩⟩
  obtain ⟨f3, fd3, g3, kp3, ⟨oc3, od3, osl3, lk3⟩, b3, F3⟩ := ok_law (P := l.prog) (w := w) (base := base) T hself
  have e3 := hfa.symm.trans g3
  cases e3
  rw [lk] at lk3
  cases lk3
  exact F3
end
end My
open PySem PySem.W PyProof.Rows
set_option maxHeartbeats 0 in
theorem PySem.Challenge.cw_formroads_k00_names_and_lines_holds : PySem.Challenge.rw_formroads_k00_names_and_lines.Holds := by
  w_on; o_law; k_head; (case hw => w_witness2)
  k_fill
  refine L2.walk_ofB (l := PySem.Challenge.rw_formroads_k00_names_and_lines) (n := 63) (k := 5) (x := "_law_script") (CX := fun _ => L2.CX0) (sp := fun w => My.sp_law _) rfl (by decide) rfl ⟨rfl, by decide, by decide⟩ (fun w h Y => PySem.W.kIn_of Y) ?F (fun _ _ a ns hl hb _ hS => ⟨a, ns, rfl, hS, hl, hb, fun _ => rfl⟩) (fun _ _ _ _ _ h => h)
  case F =>
    intro w mg fa h KX G hmg
    refine' My.all_mk KX G hmg ?eF ?eN ?eT ?er ?fr ?k8 ?k6 ?d1 ?d2 ?d3 ?d4 ?d5 ?d6 ?d7 ?d8 ?d9 ?d10 ?d11 ?d12 ?d13 ?d14 ?d15 ?d16 ?d17 ?d18
    (case eF => refine' ⟨?a, ?x, ?k, ?s, ?t⟩; (case a => k_is); (case x => k_exc); (case k => k_is); (case s => k_is); (case t => k_is))
    (case eN => refine' ⟨?a, ?x, ?k, ?s, ?t⟩; (case a => k_is); (case x => k_exc); (case k => k_is); (case s => k_is); (case t => k_is))
    (case eT => refine' ⟨?a, ?x, ?k, ?s, ?t⟩; (case a => k_is); (case x => k_exc); (case k => k_is); (case s => k_is); (case t => k_is))
    (case er => exact ⟨My.exm_of' (by k_is) (by k_is) (by k_is) (by k_is), My.exm_of' (by k_is) (by k_is) (by k_is) (by k_is), My.exm_of' (by k_is) (by k_is) (by k_is) (by k_is), My.exm_of' (by k_is) (by k_is) (by k_is) (by k_is), ⟨by k_is, by k_is, by k_is, by k_is, by k_is, by k_is, by k_is, by k_is⟩, ⟨by k_is, by k_is, by k_is, by k_is, by k_is, by k_is, by k_is, by k_is⟩, My.kit_ve (by k_is), My.kit_ve (by k_is), My.kit_not (by k_is) (by k_is) (by k_is) (by k_is), My.kit_not (by k_is) (by k_is) (by k_is) (by k_is)⟩)
    (case fr => exact ⟨by k_is, by k_is, by k_is, by k_is, by k_is, by k_is, by k_is, by k_is, by k_is, by k_is⟩)
    (case k8 => k_is)
    (case k6 => k_is)
    (case d1 => exact My.defAt (by k_is) (by k_is) (by k_is) (by k_is))
    (case d2 => exact My.defAt (by k_is) (by k_is) (by k_is) (by k_is))
    (case d3 => exact My.defAt (by k_is) (by k_is) (by k_is) (by k_is))
    (case d4 => exact My.defAt (by k_is) (by k_is) (by k_is) (by k_is))
    (case d5 => exact My.defAt (by k_is) (by k_is) (by k_is) (by k_is))
    (case d6 => exact My.defAt (by k_is) (by k_is) (by k_is) (by k_is))
    (case d7 => exact My.defAt (by k_is) (by k_is) (by k_is) (by k_is))
    (case d8 => exact My.defAt (by k_is) (by k_is) (by k_is) (by k_is))
    (case d9 => exact My.defAt (by k_is) (by k_is) (by k_is) (by k_is))
    (case d10 => exact My.defAt (by k_is) (by k_is) (by k_is) (by k_is))
    (case d11 => exact My.defAt (by k_is) (by k_is) (by k_is) (by k_is))
    (case d12 => exact My.defAt (by k_is) (by k_is) (by k_is) (by k_is))
    (case d13 => exact My.defAt (by k_is) (by k_is) (by k_is) (by k_is))
    (case d14 => exact My.defAt (by k_is) (by k_is) (by k_is) (by k_is))
    (case d15 => exact My.defAt (by k_is) (by k_is) (by k_is) (by k_is))
    (case d16 => exact My.defAt (by k_is) (by k_is) (by k_is) (by k_is))
    (case d17 => exact My.defAt (by k_is) (by k_is) (by k_is) (by k_is))
    (case d18 => exact My.defAt (by k_is) (by k_is) (by k_is) (by k_is))
