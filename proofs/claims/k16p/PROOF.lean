import PyProof.Rows.All
import Wide.All
import OpenK.AllK
import Wide.FinOn
import HandS.ForMost
import HandS.ForExc
import HandS.TryMany
import HandS.ExcIs
import HandS.IsInst
import HandS.Wide
import HandS.EndBits
import HandS.StrMore
import HandS.Evl
import KE.DataCmp
import HandS.TupAny
import HandS.Style
import HandS.Deep
import HandS.TupLe
import HandS.SortInts
import HandS.Rev
import HandS.Zip
import HandS.More
import PySem.Challenge.RW_formroads_k16_notes_as_numbers
set_option Elab.async false
set_option linter.all false
set_option maxRecDepth 100000
set_option autoImplicit false
set_option maxHeartbeats 4000000
namespace My
open PySem PySem.Spec PyProof.Rows L2
/-! ### built-in names -/
theorem b0_len : bootBuiltins "len" = some (.builtin "len") := PySem.boot_len
theorem b0_all : bootBuiltins "all" = some (.builtin "all") := by decide +kernel
theorem b0_any : bootBuiltins "any" = some (.builtin "any") := by decide +kernel
theorem b0_sum : bootBuiltins "sum" = some (.builtin "sum") := by decide +kernel
theorem b0_sorted : bootBuiltins "sorted" = some (.builtin "sorted") := by decide +kernel
theorem b0_isinstance : bootBuiltins "isinstance" = some (.builtin "isinstance") := by decide +kernel
theorem b0_int : bootBuiltins "int" = some (.type "int") := by decide +kernel
theorem b0_str : bootBuiltins "str" = some (.type "str") := by decide +kernel
theorem b0_bool : bootBuiltins "bool" = some (.type "bool") := by decide +kernel
theorem b0_list : bootBuiltins "list" = some (.type "list") := by decide +kernel
theorem b0_tuple : bootBuiltins "tuple" = some (.type "tuple") := by decide +kernel
theorem b0_dict : bootBuiltins "dict" = some (.type "dict") := by decide +kernel
theorem b0_ValueError : bootBuiltins "ValueError" = some (.type "ValueError") := by decide +kernel
/-! ### rules that were lacking -/
/-- a * b of ints of together less than 134,217,000 bits -/
def CMulB (i j : Int) : Prop := i.natAbs.log2 + j.natAbs.log2 < 134217000
theorem CMulB.ok {i j : Int} (h : CMulB i j) : IntMulOk i j := by
  have b : ∀ x : Int, Builtin.Int.intBits x ≤ x.natAbs.log2 + 1 := fun x => by
    unfold Builtin.Int.intBits
    split <;> omega
  have h1 := b i
  have h2 := b j
  have h3 : i.natAbs.log2 + j.natAbs.log2 < 134217000 := h
  have e : bitsLine = 134217728 := by decide
  unfold IntMulOk
  intro z
  rw [Bool.and_eq_true] at z
  have z2 := z.2
  unfold Builtin.Int.intTooBig at z2
  have z3 := of_decide_eq_true z2
  rw [e] at z3
  omega
section
variable {X : Cx}
theorem op_mulB : OpR X (binaryOp .Mult) (rI CMulB fun i j => .int (i * j)) := opI fun _ _ _ _ _ _ _ hc q => mul_int q hc.ok
/-- text * int -/
theorem op_mul_str : OpR X (binaryOp .Mult) (fun x y H Q => ∃ (z : Str) (k : Int), x = .str z ∧ y = .int k ∧ 0 ≤ k ∧ k ≤ 1000 ∧ z.length ≤ 1000 ∧ Q (.str (Txt.mul z k)) H) := by
  intro pins s σ H x y v u Q I rx ry h
  obtain ⟨z, k, rfl, rfl, h0, h1, h2, q⟩ := h
  obtain ⟨t, rfl⟩ := rx
  obtain ⟨t', rfl⟩ := ry
  exact PySem.SB.mul (PyProof.Rows.mulOk_of 1000 1000 h2 (by omega) (by omega) (by decide) (by decide)) (fun t' tk => ⟨.str (Txt.mul z k), H, I.tok _, ⟨_, rfl⟩, q⟩)
end
/-! ### defs of the top -/
/-- the def of that name keeps the promise -/
def FOk (P : Program) (w : World) (K : PySem.W.Frag) (mg : Str → Option Value) (base : Heap) (CX : CXT) (x : Str) (ps : List Str) (k : Nat) (sp : Sp) : Prop :=
  ∃ (f : Addr) (fd : FuncData), mg x = some (.ref f) ∧ PySem.W.keepIn K (.ref f) = true ∧ (∃ oc od osl, K.lookup f = some ⟨oc, od, .func fd, osl⟩) ∧ Binds K fd ps [] ∧ FnOk P w K mg base CX k f fd ps sp
/-- the def stands at the top -/
structure Fn (K : PySem.W.Frag) (mg : Str → Option Value) (x : Str) (st : Stmt) (ps : List Str) : Prop where
  ex : ∃ (f : Addr) (fd : FuncData), mg x = some (.ref f) ∧ Fun K x x st f fd ∧ Binds K fd ps []
section
variable {P : Program} {w : World} {K : PySem.W.Frag} {mg : Str → Option Value} {base : Heap}
theorem _root_.L2.Fun.at' {x qual : Str} {st : Stmt} {f : Addr} {fd : FuncData} (F : Fun K x qual st f fd) : ∃ oc od osl, K.lookup f = some ⟨oc, od, .func fd, osl⟩ := by
  obtain ⟨oc, od, kV, doc, pm, an, cdv, ct, osl, e, lk, _⟩ := F.ex
  exact ⟨oc, od, osl, lk⟩
theorem Fn.ok {x : Str} {st : Stmt} {N ps : List Str} {k : Nat} {sp : Sp} (F : Fn K mg x st ps) (S : FnScope N ps (defScope st)) (len : ∀ vs H Q E, sp vs H Q E → vs.length = ps.length)
    (hbody : ∀ (f : Addr) (cdv : Value) (A : Around) (outer : List Env) (s : Shared) (H : Hp) (vs : List V) (Q : VK) (E : XK), Room k (A.deeper (envOfC x (defScope st) s.heap.objs.size f cdv)) → sp vs H Q E →
      ∃ t, PSs (cxOf CX0 P w K mg base N x (defScope st) f cdv A outer s H E).nox (defBody st) t ∧ t { nx := fun _ H' => Q .non H', rt := Q } (start N vs) H) : FOk P w K mg base CX0 x ps (k + 1) sp := by
  obtain ⟨f, fd, g, F1, b⟩ := F.ex
  exact ⟨f, fd, g, F1.kp, F1.at', b, F1.ok S len (hbody f)⟩
theorem Fn.okX {x : Str} {st : Stmt} {N ps : List Str} {k : Nat} {sp : Sp} (F : Fn K mg x st ps) (S : FnScope N ps (defScope st)) (len : ∀ vs H Q E, sp vs H Q E → vs.length = ps.length)
    (hbody : ∀ (f : Addr) (cdv : Value) (A : Around) (outer : List Env) (s : Shared) (H : Hp) (vs : List V) (Q : VK) (E : XK), Room k (A.deeper (envOfC x (defScope st) s.heap.objs.size f cdv)) → sp vs H Q E →
      ∃ t, PSs (cxOf (L2.CX P w) P w K mg base N x (defScope st) f cdv A outer s H E) (defBody st) t ∧ t { nx := fun _ H' => Q .non H', rt := Q } (start N vs) H) : FOk P w K mg base (L2.CX P w) x ps (k + 1) sp := by
  obtain ⟨f, fd, g, F1, b⟩ := F.ex
  exact ⟨f, fd, g, F1.kp, F1.at', b, F1.okX S len (hbody f)⟩
theorem fn_at {h : Heap} (X : K.In h) (G : h.Ns mainGlobals mg) {x : Str} {st : Stmt} {ps : List Str} {f : Addr} {oc : Value} {od an : Option Addr} {osl : Array (Option Value)} {kV doc pm cdv ct : Value}
    (a : PySem.W.nsIn K mainGlobals x = some (some (.ref f)))
    (l : K.lookup f = some ⟨oc, od, .func (PySem.W.fnOf x x (defArgs st) (defBody st) (defScope st) .none kV doc pm an cdv ct), osl⟩)
    (c : PySem.W.codeIn K cdv x = true) (k : PySem.W.keepIn K (.ref f) = true)
    (b : ∀ (kV doc pm : Value) (an : Option Addr) (cdv ct : Value) (us : List Value), us.length = ps.length → bindArgs (PySem.W.fnOf x x (defArgs st) (defBody st) (defScope st) .none kV doc pm an cdv ct) ⟨us, []⟩ = pure (ps.zip us)) : Fn K mg x st ps := by
  have F := fun_mk l c k
  exact ⟨⟨f, _, PySem.W.mg_of X G a, F, F.binds b⟩⟩
end
section
variable {X : Cx} {k j : Nat} {ps : List Str} {sp : Sp} {x : Str} {p pos : Pos} {e : Expr} {es : List Expr} {t : TA}
/-- f(..), f a def that raises nothing -/
theorem pcall (F : FOk X.prog X.w X.K X.mg X.base CX0 x ps j sp) (hr : Room k X.A) (ha : PA X (e :: es) t) (hj : j ≤ k := by decide) (hg : Gl X x := by rfl) (hdb : (x == ("__debug__" : Str)) = false := by decide)
    (he : starEach (e :: es) X.env = (false, eval e X.env) :: starEach es X.env := by rfl) (hpl : (backTo pos (starEach es X.env)).any (·.1) = false := by rfl) : PE X (.Call (.Name x p) (e :: es) [] pos) (tCall sp [] E0 t) := by
  obtain ⟨f, fd, g, kp, _, b, F⟩ := F
  exact pe_call F (hr.mono hj) hg g kp b .nil pass0 ha hdb he hpl
/-- f(..), f a def that may raise, where W is wished of what is raised -/
theorem pcallX {W : WX} (F : FOk X.prog X.w X.K X.mg X.base (L2.CX X.prog X.w) x ps j sp) (hr : Room k X.A) (tk : Takes X W) (ha : PA X (e :: es) t) (hj : j ≤ k := by decide) (hg : Gl X x := by rfl) (hdb : (x == ("__debug__" : Str)) = false := by decide)
    (he : starEach (e :: es) X.env = (false, eval e X.env) :: starEach es X.env := by rfl) (hpl : (backTo pos (starEach es X.env)).any (·.1) = false := by rfl) : PE X (.Call (.Name x p) (e :: es) [] pos) (tCallS sp (WE W) t) := by
  obtain ⟨f, fd, g, kp, _, b, F⟩ := F
  exact pe_callS F (hr.mono hj) hg g kp b (fun σ => passAt tk σ) ha hdb he hpl
end
/-! ### heaps -/
/-- all but a is as it was -/
def SameBut (a : Addr) (H H' : Hp) : Prop := ∀ b o, b ≠ a → H b = some o → H' b = some o
theorem SameBut.refl (a : Addr) (H : Hp) : SameBut a H H := fun _ _ _ h => h
theorem SameBut.trans {a : Addr} {H H1 H2 : Hp} (x : SameBut a H H1) (y : SameBut a H1 H2) : SameBut a H H2 := fun b o n h => y b o n (x b o n h)
theorem SameBut.of {a : Addr} {H H' : Hp} (x : Same H H') : SameBut a H H' := fun b o _ h => x b o h
theorem SameBut.upd {a : Addr} {H : Hp} {o : HO} : SameBut a H (upd H a o) := fun b u n h => by rw [upd_ne n]; exact h
theorem Same.new {H : Hp} {p : Addr} {o : HO} (h : H p = none) : Same H (upd H p o) := fun b x e => by
  rw [upd_ne (ne_of_none e h)]
  exact e
theorem sql_ne {K : PySem.W.Frag} {a : Addr} {H H' : Hp} {p : Addr} {xs : List V} (n : p ≠ a) (x : SameBut a H H') (h : SqL K H p xs) : SqL K H' p xs := by
  rcases h with (h | ⟨o, h⟩) | h
  · exact .inl (.inl (x _ _ n h))
  · exact .inl (.inr ⟨o, x _ _ n h⟩)
  · exact .inr h
theorem sqt_ne {K : PySem.W.Frag} {a : Addr} {H H' : Hp} {p : Addr} {xs : List V} (n : p ≠ a) (x : SameBut a H H') (h : SqT K H p xs) : SqT K H' p xs := by
  rcases h with (h | ⟨o, h⟩) | h
  · exact .inl (.inl (x _ _ n h))
  · exact .inl (.inr ⟨o, x _ _ n h⟩)
  · exact .inr h
theorem sqt_same {K : PySem.W.Frag} {H H' : Hp} {a : Addr} {xs : List V} (e : Same H H') (h : SqT K H a xs) : SqT K H' a xs := by
  rcases h with (h | ⟨o, h⟩) | h
  · exact .inl (.inl (e _ _ h))
  · exact .inl (.inr ⟨o, e _ _ h⟩)
  · exact .inr h
theorem SqL.of' {K : PySem.W.Frag} {H : Hp} {a : Addr} {xs : List V} (h : H a = some (.lst xs)) : SqL K H a xs := .inl (.inl h)
theorem le1000 {n : Nat} (h : n ≤ 1000) : n ≤ sizeLine := Nat.le_trans h (by decide)
theorem le100k {n : Nat} (h : n ≤ 100000) : n ≤ sizeLine := Nat.le_trans h (by decide)
theorem lt100k {n : Nat} (h : n < 100000) : n < sizeLine := Nat.lt_of_lt_of_le h (by decide)
end My
namespace My
open PySem PySem.Spec PyProof.Rows L2
/-! ### loops by what has been gone through -/
theorem take_snoc {α : Type} {xs : List α} {i : Nat} {x : α} (h : xs[i]? = some x) : xs.take (i + 1) = xs.take i ++ [x] := by
  rw [List.take_add_one, h]
  rfl
theorem split_at' {α : Type} {xs : List α} {i : Nat} {x : α} (h : xs[i]? = some x) : xs = xs.take i ++ x :: xs.drop (i + 1) := by
  have hi : i < xs.length := by
    rcases Nat.lt_or_ge i xs.length with q | q
    · exact q
    · rw [List.getElem?_eq_none q] at h
      cases h
  have e : xs[i] = x := by
    rw [List.getElem?_eq_getElem hi] at h
    exact Option.some.inj h
  rw [← e, ← List.drop_eq_getElem_cons hi, List.take_append_drop]
section
variable {K : PySem.W.Frag} {a : Addr} {xs : List V} {g : TG} {tb : TS} {D : Ends} {σ : L2.St} {H : Hp}
/-- for x in a list: Pv of what has been gone through -/
theorem forL (Pv : List V → L2.St → Hp → Prop) (h0 : Pv [] σ H) (hl : ∀ pre σ H, Pv pre σ H → SqL K H a xs)
    (hs : ∀ pre x post σ H, xs = pre ++ x :: post → Pv pre σ H → g x σ H fun σ2 H2 => tb { D with nx := Pv (pre ++ [x]), ct := Pv (pre ++ [x]), bk := D.nx } σ2 H2) (hd : ∀ σ H, Pv xs σ H → D.nx σ H) :
    ∃ W : Nat → Nat → L2.St → Hp → Prop, (∃ m, W 0 m σ H) ∧ ∀ i m σ H, W i m σ H →
      ((Itl K a).stop i H ∧ D.nx σ H) ∨ ((Itl K a).go i H ∧ ∃ N : L2.St → Hp → Prop, (∀ σ' H', N σ' H' → ∃ m', m' < m ∧ W (i + 1) m' σ' H') ∧ ∀ x H', (Itl K a).yld i H x H' → g x σ H' fun σ2 H2 => tb { D with nx := N, ct := N, bk := D.nx } σ2 H2) :=
  for_list (K := K) (a := a) (xs := xs) (fun i => Pv (xs.take i)) h0 (fun i σ H _ p => hl _ σ H p) (fun i x σ H e p => by
    have := hs (xs.take i) x (xs.drop (i + 1)) σ H (split_at' e) p
    rw [← take_snoc e] at this
    exact this) (fun σ H p => hd σ H (by rw [List.take_length] at p; exact p))
theorem forT (Pv : List V → L2.St → Hp → Prop) (h0 : Pv [] σ H) (hl : ∀ pre σ H, Pv pre σ H → SqT K H a xs)
    (hs : ∀ pre x post σ H, xs = pre ++ x :: post → Pv pre σ H → g x σ H fun σ2 H2 => tb { D with nx := Pv (pre ++ [x]), ct := Pv (pre ++ [x]), bk := D.nx } σ2 H2) (hd : ∀ σ H, Pv xs σ H → D.nx σ H) :
    ∃ W : Nat → Nat → L2.St → Hp → Prop, (∃ m, W 0 m σ H) ∧ ∀ i m σ H, W i m σ H →
      ((Itt K a).stop i H ∧ D.nx σ H) ∨ ((Itt K a).go i H ∧ ∃ N : L2.St → Hp → Prop, (∀ σ' H', N σ' H' → ∃ m', m' < m ∧ W (i + 1) m' σ' H') ∧ ∀ x H', (Itt K a).yld i H x H' → g x σ H' fun σ2 H2 => tb { D with nx := N, ct := N, bk := D.nx } σ2 H2) :=
  for_tup (K := K) (a := a) (xs := xs) (fun i => Pv (xs.take i)) h0 (fun i σ H _ p => hl _ σ H p) (fun i x σ H e p => by
    have := hs (xs.take i) x (xs.drop (i + 1)) σ H (split_at' e) p
    rw [← take_snoc e] at this
    exact this) (fun σ H p => hd σ H (by rw [List.take_length] at p; exact p))
/-- for c in a text -/
theorem forS {z : Str} (Pv : List Nat → L2.St → Hp → Prop) (h0 : Pv [] σ H)
    (hs : ∀ pre c post σ H, z.cps.toList = pre ++ c :: post → Pv pre σ H → g (.str ⟨#[c]⟩) σ H fun σ2 H2 => tb { D with nx := Pv (pre ++ [c]), ct := Pv (pre ++ [c]), bk := D.nx } σ2 H2) (hd : ∀ σ H, Pv z.cps.toList σ H → D.nx σ H) :
    ∃ W : Nat → Nat → L2.St → Hp → Prop, (∃ m, W 0 m σ H) ∧ ∀ i m σ H, W i m σ H →
      ((Its z).stop i H ∧ D.nx σ H) ∨ ((Its z).go i H ∧ ∃ N : L2.St → Hp → Prop, (∀ σ' H', N σ' H' → ∃ m', m' < m ∧ W (i + 1) m' σ' H') ∧ ∀ x H', (Its z).yld i H x H' → g x σ H' fun σ2 H2 => tb { D with nx := N, ct := N, bk := D.nx } σ2 H2) := by
  refine ⟨fun i m σ H => m = z.cps.size - i ∧ i ≤ z.cps.size ∧ Pv (z.cps.toList.take i) σ H, ⟨z.cps.size, by simp, Nat.zero_le _, h0⟩, ?_⟩
  rintro i m σ H ⟨rfl, hi, p⟩
  by_cases hlt : i < z.cps.size
  · refine .inr ⟨hlt, Pv (z.cps.toList.take (i + 1)), fun σ' H' p' => ⟨z.cps.size - (i + 1), by omega, rfl, hlt, p'⟩, fun x H' y => ?_⟩
    obtain ⟨rfl, c, hc, rfl⟩ := y
    have hc' : z.cps.toList[i]? = some c := by rw [← hc]; simp
    have := hs _ c _ σ H' (split_at' hc') p
    rw [← take_snoc hc'] at this
    exact this
  · have e : i = z.cps.size := by omega
    subst e
    refine .inl ⟨Nat.le_refl _, hd σ H ?_⟩
    have e2 : z.cps.toList.take z.cps.size = z.cps.toList := List.take_of_length_le (by simp)
    rw [e2] at p
    exact p
end
section
variable {K : PySem.W.Frag} {a : Addr} {xs : List V} {g : TG} {tt : TT} {te : TE} {vs : List Nat} {σ : L2.St} {H1 : Hp} {D : Addr} {Qd : Hp → Prop}
/-- [.. for x in a list ..]: Pv of what has been gone through -/
theorem lcL (Pv : List V → Hp → Prop) (h0 : Pv [] (upd H1 D (.lst []))) (hl : ∀ pre H, Pv pre H → SqL K H a xs)
    (hs : ∀ pre x post H, xs = pre ++ x :: post → Pv pre H → g x (wipe σ vs) H fun σ2 H2 => wipe σ2 vs = wipe σ vs ∧ tt σ2 H2 fun b H3 =>
      if b = true then te σ2 H3 fun y H4 => ∃ acc, H4 D = some (.lst acc) ∧ acc.length < sizeLine ∧ Pv (pre ++ [x]) (upd H4 D (.lst (acc ++ [y]))) else Pv (pre ++ [x]) H3) (hd : ∀ H, Pv xs H → Qd H) :
    ∃ W : Nat → Nat → Hp → Prop, (∃ m, W 0 m (upd H1 D (.lst []))) ∧ ∀ i m H, W i m H →
      ((Itl K a).stop i H ∧ Qd H) ∨ ((Itl K a).go i H ∧ ∃ Nx : Hp → Prop, (∀ H', Nx H' → ∃ m', m' < m ∧ W (i + 1) m' H') ∧ ∀ x H', (Itl K a).yld i H x H' → g x (wipe σ vs) H' fun σ2 H2 => wipe σ2 vs = wipe σ vs ∧ tt σ2 H2 fun b H3 =>
        if b = true then te σ2 H3 fun y H4 => ∃ acc, H4 D = some (.lst acc) ∧ acc.length < sizeLine ∧ Nx (upd H4 D (.lst (acc ++ [y]))) else Nx H3) :=
  lc_list (K := K) (a := a) (xs := xs) (fun i => Pv (xs.take i)) h0 (fun i H _ p => hl _ H p) (fun i x H e p => by
    have := hs (xs.take i) x (xs.drop (i + 1)) H (split_at' e) p
    rw [← take_snoc e] at this
    exact this) (fun H p => hd H (by rw [List.take_length] at p; exact p))
theorem lcT (Pv : List V → Hp → Prop) (h0 : Pv [] (upd H1 D (.lst []))) (hl : ∀ pre H, Pv pre H → SqT K H a xs)
    (hs : ∀ pre x post H, xs = pre ++ x :: post → Pv pre H → g x (wipe σ vs) H fun σ2 H2 => wipe σ2 vs = wipe σ vs ∧ tt σ2 H2 fun b H3 =>
      if b = true then te σ2 H3 fun y H4 => ∃ acc, H4 D = some (.lst acc) ∧ acc.length < sizeLine ∧ Pv (pre ++ [x]) (upd H4 D (.lst (acc ++ [y]))) else Pv (pre ++ [x]) H3) (hd : ∀ H, Pv xs H → Qd H) :
    ∃ W : Nat → Nat → Hp → Prop, (∃ m, W 0 m (upd H1 D (.lst []))) ∧ ∀ i m H, W i m H →
      ((Itt K a).stop i H ∧ Qd H) ∨ ((Itt K a).go i H ∧ ∃ Nx : Hp → Prop, (∀ H', Nx H' → ∃ m', m' < m ∧ W (i + 1) m' H') ∧ ∀ x H', (Itt K a).yld i H x H' → g x (wipe σ vs) H' fun σ2 H2 => wipe σ2 vs = wipe σ vs ∧ tt σ2 H2 fun b H3 =>
        if b = true then te σ2 H3 fun y H4 => ∃ acc, H4 D = some (.lst acc) ∧ acc.length < sizeLine ∧ Nx (upd H4 D (.lst (acc ++ [y]))) else Nx H3) :=
  lc_tup (K := K) (a := a) (xs := xs) (fun i => Pv (xs.take i)) h0 (fun i H _ p => hl _ H p) (fun i x H e p => by
    have := hs (xs.take i) x (xs.drop (i + 1)) H (split_at' e) p
    rw [← take_snoc e] at this
    exact this) (fun H p => hd H (by rw [List.take_length] at p; exact p))
theorem lcS {z : Str} (Pv : List Nat → Hp → Prop) (h0 : Pv [] (upd H1 D (.lst [])))
    (hs : ∀ pre c post H, z.cps.toList = pre ++ c :: post → Pv pre H → g (.str ⟨#[c]⟩) (wipe σ vs) H fun σ2 H2 => wipe σ2 vs = wipe σ vs ∧ tt σ2 H2 fun b H3 =>
      if b = true then te σ2 H3 fun y H4 => ∃ acc, H4 D = some (.lst acc) ∧ acc.length < sizeLine ∧ Pv (pre ++ [c]) (upd H4 D (.lst (acc ++ [y]))) else Pv (pre ++ [c]) H3) (hd : ∀ H, Pv z.cps.toList H → Qd H) :
    ∃ W : Nat → Nat → Hp → Prop, (∃ m, W 0 m (upd H1 D (.lst []))) ∧ ∀ i m H, W i m H →
      ((Its z).stop i H ∧ Qd H) ∨ ((Its z).go i H ∧ ∃ Nx : Hp → Prop, (∀ H', Nx H' → ∃ m', m' < m ∧ W (i + 1) m' H') ∧ ∀ x H', (Its z).yld i H x H' → g x (wipe σ vs) H' fun σ2 H2 => wipe σ2 vs = wipe σ vs ∧ tt σ2 H2 fun b H3 =>
        if b = true then te σ2 H3 fun y H4 => ∃ acc, H4 D = some (.lst acc) ∧ acc.length < sizeLine ∧ Nx (upd H4 D (.lst (acc ++ [y]))) else Nx H3) := by
  refine ⟨fun i m H => m = z.cps.size - i ∧ i ≤ z.cps.size ∧ Pv (z.cps.toList.take i) H, ⟨z.cps.size, by simp, Nat.zero_le _, h0⟩, ?_⟩
  rintro i m H ⟨rfl, hi, p⟩
  by_cases hlt : i < z.cps.size
  · refine .inr ⟨hlt, Pv (z.cps.toList.take (i + 1)), fun H' p' => ⟨z.cps.size - (i + 1), by omega, rfl, hlt, p'⟩, fun x H' y => ?_⟩
    obtain ⟨rfl, c, hc, rfl⟩ := y
    have hc' : z.cps.toList[i]? = some c := by rw [← hc]; simp
    have := hs _ c _ H' (split_at' hc') p
    rw [← take_snoc hc'] at this
    exact this
  · have e : i = z.cps.size := by omega
    subst e
    refine .inl ⟨Nat.le_refl _, hd H ?_⟩
    have e2 : z.cps.toList.take z.cps.size = z.cps.toList := List.take_of_length_le (by simp)
    rw [e2] at p
    exact p
end
end My
namespace My
section
variable {c A B : Prop} [Decidable c]
theorem dT (h : c) (q : A) : if decide c = true then A else B := by rw [if_pos (decide_eq_true h)]; exact q
theorem dF (h : ¬ c) (q : B) : if decide c = true then A else B := by rw [decide_eq_false h, if_neg Bool.false_ne_true]; exact q
theorem nT (h : ¬ c) (q : A) : if (!decide c) = true then A else B := by rw [decide_eq_false h]; exact q
theorem nF (h : c) (q : B) : if (!decide c) = true then A else B := by rw [decide_eq_true h]; exact q
theorem d2 (h1 : c → A) (h2 : ¬ c → B) : if decide c = true then A else B := by
  by_cases h : c
  · exact dT h (h1 h)
  · exact dF h (h2 h)
theorem n2 (h1 : ¬ c → A) (h2 : c → B) : if (!decide c) = true then A else B := by
  by_cases h : c
  · exact nF h (h2 h)
  · exact nT h (h1 h)
theorem b2 {b : Bool} {A B : Prop} (h1 : b = true → A) (h2 : b = false → B) : if b = true then A else B := by
  cases b with
  | true => exact h1 rfl
  | false => exact h2 rfl
theorem bT {b : Bool} {A B : Prop} (h : b = true) (q : A) : if b = true then A else B := by rw [h]; exact q
theorem bF {b : Bool} {A B : Prop} (h : b = false) (q : B) : if b = true then A else B := by rw [h]; exact q
end
end My
namespace My
open PySem PySem.Spec PyProof.Rows L2 Evl
section
variable {K : PySem.W.Frag} {H : Hp} {x y : V}
theorem rv_isN : RV (fun x y H Q => y = .non ∧ Q (.bl (decide (x = .non))) H) x .non H (.bl (decide (x = .non))) := fun H1 _ _ q => ⟨rfl, q H1 (Evl.Ex.refl H1)⟩
theorem rv_notN : RV (fun x y H Q => y = .non ∧ Q (.bl (!decide (x = .non))) H) x .non H (.bl (!decide (x = .non))) := fun H1 _ _ q => ⟨rfl, q H1 (Evl.Ex.refl H1)⟩
theorem rv_inStr {i j : Str} : RV (fun x y H Q => ∃ i j, x = .str i ∧ y = .str j ∧ Q (.bl (!(Builtin.Str.occurrences j i 0 j.length 1).isEmpty)) H) (.str i) (.str j) H (.bl (!(Builtin.Str.occurrences j i 0 j.length 1).isEmpty)) := fun H1 _ _ q => ⟨i, j, rfl, rfl, q H1 (Evl.Ex.refl H1)⟩
theorem rv_addS {i j : Str} (h : i.length + j.length ≤ sizeLine) : RV (fun x y H Q => ∃ i j, x = .str i ∧ y = .str j ∧ i.length + j.length ≤ sizeLine ∧ Q (.str (i ++ j)) H) (.str i) (.str j) H (.str (i ++ j)) := fun H1 _ _ q => ⟨i, j, rfl, rfl, h, q H1 (Evl.Ex.refl H1)⟩
end
end My
set_option Elab.async false
set_option linter.all false
set_option maxRecDepth 100000
set_option autoImplicit false
set_option maxHeartbeats 4000000
namespace Den
open PySem PySem.Spec PyProof.Rows L2
/-! ### data -/
inductive D where
  | non | bl (b : Bool) | int (i : Int) | str (s : Str)
  | lst (xs : List D) | tup (xs : List D)
  | frl (xs : List D)
  | dic (ks vs : List D)
  | obj (C : Nat) (ns : List Str) (vs : List D)
mutual
def D.same : D → D → Bool
  | .non, .non => true
  | .bl a, .bl b => decide (a = b)
  | .int a, .int b => decide (a = b)
  | .str a, .str b => decide (a = b)
  | .lst a, .lst b => D.sames a b
  | .tup a, .tup b => D.sames a b
  | .frl a, .frl b => D.sames a b
  | .dic a c, .dic b d => D.sames a b && D.sames c d
  | .obj x n a, .obj y m b => decide (x = y) && decide (n = m) && D.sames a b
  | _, _ => false
def D.sames : List D → List D → Bool
  | [], [] => true
  | x :: xs, y :: ys => D.same x y && D.sames xs ys
  | _, _ => false
end
mutual
theorem D.same_eq : ∀ a b : D, D.same a b = true → a = b
  | .non, b, h => by cases b <;> first | rfl | (simp [D.same] at h)
  | .bl x, b, h => by cases b <;> first | (simp [D.same] at h; done) | (simp [D.same] at h; rw [h])
  | .int x, b, h => by cases b <;> first | (simp [D.same] at h; done) | (simp [D.same] at h; rw [h])
  | .str x, b, h => by cases b <;> first | (simp [D.same] at h; done) | (simp [D.same] at h; rw [h])
  | .lst x, b, h => by cases b <;> first | (simp [D.same] at h; done) | (rw [D.sames_eq x _ (by simpa [D.same] using h)])
  | .tup x, b, h => by cases b <;> first | (simp [D.same] at h; done) | (rw [D.sames_eq x _ (by simpa [D.same] using h)])
  | .frl x, b, h => by cases b <;> first | (simp [D.same] at h; done) | (rw [D.sames_eq x _ (by simpa [D.same] using h)])
  | .dic x y, b, h => by
    cases b <;> first | (simp [D.same] at h; done) | skip
    rename_i u v
    simp only [D.same, Bool.and_eq_true] at h
    rw [D.sames_eq x _ h.1, D.sames_eq y _ h.2]
  | .obj c n x, b, h => by
    cases b <;> first | (simp [D.same] at h; done) | skip
    rename_i u v z
    simp only [D.same, Bool.and_eq_true, decide_eq_true_eq] at h
    rw [h.1.1, h.1.2, D.sames_eq x _ h.2]
theorem D.sames_eq : ∀ a b : List D, D.sames a b = true → a = b
  | [], b, h => by cases b <;> first | rfl | (simp [D.sames] at h)
  | x :: xs, b, h => by
    cases b with
    | nil => simp [D.sames] at h
    | cons y ys =>
      simp only [D.sames, Bool.and_eq_true] at h
      rw [D.same_eq x _ h.1, D.sames_eq xs _ h.2]
end
mutual
theorem D.same_refl : ∀ a : D, D.same a a = true
  | .non => rfl
  | .bl x | .int x | .str x => by simp [D.same]
  | .lst x | .tup x | .frl x => by simp only [D.same]; exact D.sames_refl x
  | .dic x y => by simp only [D.same, D.sames_refl x, D.sames_refl y]; rfl
  | .obj c n x => by simp [D.same, D.sames_refl x]
theorem D.sames_refl : ∀ a : List D, D.sames a a = true
  | [] => rfl
  | x :: xs => by simp [D.sames, D.same_refl x, D.sames_refl xs]
end
instance : DecidableEq D := fun a b => if h : D.same a b = true then isTrue (D.same_eq a b h) else isFalse fun e => h (by rw [e]; exact D.same_refl b)

/-- no reference -/
def D.flat : D → Bool
  | .non => true | .bl _ => true | .int _ => true | .str _ => true | _ => false
/-- a list, a dict, an instance whose parts are no references -/
def D.flat1 : D → Bool
  | .lst xs => xs.all D.flat
  | .dic _ vs => vs.all D.flat
  | .obj _ _ vs => vs.all D.flat
  | d => d.flat
/-! ### states -/
inductive SV where
  | shr (d : D) | own (d : D) | bor (k : Nat)
structure S where
  env : List (Option SV)
  bs : List D
inductive Out (α : Type) where
  | ok (a : α) (s : S) | ex (c : Nat) (p : List (Str × D)) (s : S) | bad
def Out.bind {α β : Type} : Out α → (α → S → Out β) → Out β
  | .ok a s, f => f a s
  | .ex c p s, _ => .ex c p s
  | .bad, _ => .bad
/-- a statement's end -/
inductive O where
  | nx (s : S) | rt (v : SV) (s : S) | bk (s : S) | ct (s : S) | ex (c : Nat) (p : List (Str × D)) (s : S) | bad
def Out.to {α : Type} : Out α → (α → S → O) → O
  | .ok a s, f => f a s
  | .ex c p s, _ => .ex c p s
  | .bad, _ => .bad
def Out.opt {α : Type} (s : S) : Option α → Out α
  | some a => .ok a s
  | none => .bad
def S.slot (s : S) (i : Nat) : Option SV := (s.env[i]?).bind id
def S.data (s : S) : SV → Option D
  | .shr d => some d
  | .own d => some d
  | .bor k => s.bs[k]?
def S.put (s : S) (i : Nat) (v : SV) : S := ⟨s.env.set i (some v), s.bs⟩
def S.wipe (s : S) (is : List Nat) : S := ⟨is.foldl (fun e i => e.set i none) s.env, s.bs⟩
/-- an operand: a name's place, or a value -/
inductive PV where
  | at (i : Nat) | val (d : D) | br (k : Nat)
def S.look (s : S) : PV → Option D
  | .val d => some d
  | .at i => (s.slot i).bind s.data
  | .br k => s.bs[k]?
def S.looks (s : S) : List PV → Option (List D)
  | [] => some []
  | p :: ps => (s.look p).bind fun d => (s.looks ps).map fun ds => d :: ds
/-- a name's value given away: an owned one is shared from now on -/
def S.move (s : S) (i : Nat) : Option (D × S) :=
  match s.slot i with
  | some (.shr d) => some (d, s)
  | some (.own d) => some (d, s.put i (.shr d))
  | _ => none
/-- an operand that does not lean on a name -/
def S.fix (s : S) : PV → Option (PV × S)
  | .val d => some (.val d, s)
  | .br k => some (.br k, s)
  | .at i => match s.slot i with
    | some (.shr d) => some (.val d, s)
    | some (.own d) => some (.val d, s.put i (.shr d))
    | some (.bor k) => some (.br k, s)
    | none => none
def S.fixes (s : S) : List PV → Option (List PV × S)
  | [] => some ([], s)
  | p :: ps => match s.fix p with
    | none => none
    | some (q, s1) => match s1.fixes ps with
      | none => none
      | some (qs, s2) => some (q :: qs, s2)
/-- .. of those operands that are names -/
def S.moves (s : S) : List PV → Option S
  | [] => some s
  | .val _ :: ps => s.moves ps
  | .br _ :: _ => none
  | .at i :: ps => match s.move i with
    | some (_, s') => s'.moves ps
    | none => none
/-- what a call of a def hands over and gets back -/
inductive Arg where
  | val (d : D) | bor (d : D)
inductive OF where
  | ret (v : SV) (bs : List D) | ex (c : Nat) (p : List (Str × D)) (bs : List D) | bad
/-! ### the text -/
inductive Op where
  | add | sub | mul | fdiv | mod | pow | band | shr | neg
  | eq | ne | lt | le | gt | ge | isin | notin | isN | isnN
  | ix | sl (lo hi : Bool) | rev
  | len | int1 | str1 | tuple | list | sorted | all | any | sum | max2 | min2 | divmod | isinst (ts : List Str)
  | fld (f : Str)
inductive BM where
  | index
inductive Tg where
  | nm (i : Nat) | tup (ts : List Tg)
inductive Mu where
  | append | reverse | insert | pop | popat | extend | clear
mutual
inductive X where
  | var (i : Nat)
  | int (i : Int) | str (s : Str) | bl (b : Bool) | non
  | glo (x : Str) (d : D)
  | op (o : Op) (xs : XS)
  | lst (xs : XS) | tup (xs : XS)
  | cmp2 (o p : Op) (a b c : X)
  | and (a b : X) | or (a b : X) | not (a : X)
  | ite (t : T) (a b : X)
  | sl3 (a b c : X)
  | bm (m : BM) (o : X) (xs : XS)
  | call (f : Nat) (ms : List Bool) (xs : XS)
  | mut (m : Mu) (i : Nat) (xs : XS)
  | comp (own : List (Str × Nat)) (tg : Tg) (it : It) (t : T) (e : X)
inductive XS where
  | nil | cons (x : X) (xs : XS)
inductive T where
  | tru | x (e : X) | isN (n : Bool) (a : X) | cmp (o : Op) (a b : X) | cmp2 (o p : Op) (a b c : X) | and (a b : T) | or (a b : T) | not (a : T)
inductive It where
  | seq (e : X) | rng (a : X) | rng2 (a b : X) | enum (e : X) | zip (a b : X) | rev (e : X)
end
/-! an except suite: tests of the error, values, statements -/
inductive BE where
  | isc (c : Nat) | isv | and (a b : BE) | or (a b : BE) | not (a : BE)
inductive HX where
  | lit (d : D) | var (i : Nat) | be (b : BE) | fld (f : Str) | inc (i : Nat) (k : Int)
  | tup (xs : List HX)
inductive HC where
  | pass | brk | cont
  | ret (x : HX) | retn
  | set (i : Nat) (x : HX)
  | iff (b : BE) (p q : List HC)
inductive C where
  | pass | brk | cont
  | expr (e : X)
  | set (i : Nat) (e : X)
  | setf (i : Nat) (e : X)
  | asg (t : Tg) (e : X)
  | retn | ret (e : X) | retv (i : Nat)
  | setix (i : Nat) (k e : X)
  | iff (t : T) (a b : List C) (w : List Nat)
  | for (tg : Tg) (it : It) (b : List C) (w : List Nat)
  | while (t : T) (b : List C) (w : List Nat)
  | raise (c : Nat)
  | try1 (b : List C) (c : Nat) (i : Option Nat) (h : List HC) (w : List Nat)
/-! ### what the operations give -/
def lim : Nat := 1000000
def mulG (i j : Int) : Bool := decide ((-(2 ^ 64) < i ∧ i < 2 ^ 64) ∨ (-(2 ^ 64) < j ∧ j < 2 ^ 64))
def divG (j : Int) : Bool := decide (0 < j ∧ j < 1073741824)
mutual
def D.py : D → PyData
  | .non => .none
  | .bl b => .bool b
  | .int i => .int i
  | .str s => .str s
  | .lst xs => .list (D.pys xs)
  | .tup xs => .tuple (D.pys xs)
  | .dic _ _ => .dict []
  | .frl _ => .dict []
  | .obj _ _ _ => .dict []
def D.pys : List D → List PyData
  | [] => []
  | x :: xs => D.py x :: D.pys xs
end
def D.okq (d : D) : Bool := SeqAt.shaped d.py
def D.eqv (d e : D) : Bool := PyData.eqv d.py e.py
/-- the scalars -/
def D.v : D → Option V
  | .non => some .non | .bl b => some (.bl b) | .int i => some (.int i) | .str s => some (.str s) | _ => none
def D.scal (d e : D) : Bool := match d.v, e.v with
  | some x, some y => L2.scal x y
  | _, _ => false
def D.truth : D → Option Bool
  | .non => some false
  | .bl b => some b
  | .int i => some (i != 0)
  | .str s => if s.length ≤ lim then some ((s.length : Int) != 0) else none
  | .lst xs => some (!xs.isEmpty)
  | .tup xs => some (!xs.isEmpty)
  | _ => none
def ixI {α : Type} (xs : List α) (i : Int) : Option α := atI xs i
def cutG {α : Type} (xs : List α) (lo hi : Option Int) : List α := (xs.drop (HT.sIx xs.length 0 lo)).take (HT.sIx xs.length xs.length hi - HT.sIx xs.length 0 lo)
def D.seq : D → Option (List D)
  | .lst xs => some xs
  | .tup xs => some xs
  | _ => none
def D.ints : List D → Option (List Int)
  | [] => some []
  | .int i :: r => (D.ints r).map fun is => i :: is
  | _ => none
def D.bls : List D → Option (List Bool)
  | [] => some []
  | .bl i :: r => (D.bls r).map fun is => i :: is
  | _ => none
def D.eqq (d e : D) : Option Bool := if D.scal d e = true then some (decide (d = e)) else if (d.okq && e.okq) = true then some (D.eqv d e) else none
/-- an item among items -/
def D.isin (d : D) (xs : List D) : Option Bool :=
  if (d.flat && xs.all D.flat) = true then some (xs.any fun y => D.eqv y d) else none
/-- .. of any depth, in a list -/
def D.isinL (d : D) (xs : List D) : Option Bool :=
  if (d.flat && xs.all D.flat) = true then some (xs.any fun y => D.eqv y d) else if (d.okq && (D.lst xs).okq) = true then some (xs.any fun y => D.eqv y d) else none
def D.isObj : D → Bool
  | .obj _ _ _ => true | .frl _ => true | _ => false
def isD (d : D) (t : Str) : Option Bool :=
  if d.isObj = true then none
  else if t = "bool" then some (match d with | .bl _ => true | _ => false)
  else if t = "int" then some (match d with | .bl _ => true | .int _ => true | _ => false)
  else if t = "str" then some (match d with | .str _ => true | _ => false)
  else if t = "tuple" then some (match d with | .tup _ => true | _ => false)
  else if t = "list" then some (match d with | .lst _ => true | _ => false)
  else none
def msort (ns : List Int) : List Int := ns.mergeSort (fun a b => decide (a ≤ b))
def addS : D → D → Option SV
  | .int i, .int j => some (.shr (.int (i + j)))
  | .str i, .str j => if i.length + j.length ≤ lim then some (.shr (.str (i ++ j))) else none
  | .lst i, .lst j => if i.length + j.length ≤ lim then some (.own (.lst (i ++ j))) else none
  | .tup i, .tup j => if i.length + j.length ≤ lim then some (.shr (.tup (i ++ j))) else none
  | _, _ => none
def mulS : D → D → Option SV
  | .int i, .int j => if mulG i j = true then some (.shr (.int (i * j))) else none
  | .str z, .int k => if 0 ≤ k ∧ k ≤ 1000 ∧ z.length ≤ 1000 then some (.shr (.str (Txt.mul z k))) else none
  | _, _ => none
def ixS : D → D → Option SV
  | .lst xs, .int i => (ixI xs i).map .shr
  | .tup xs, .int i => (ixI xs i).map .shr
  | .str z, .int i => if z.length ≤ lim then (ixI z.cps.toList i).map fun c => .shr (.str ⟨#[c]⟩) else none
  | _, _ => none
def slS (lo hi : Option Int) : D → Option SV
  | .lst xs => some (.own (.lst (cutG xs lo hi)))
  | .tup xs => some (.shr (.tup (cutG xs lo hi)))
  | _ => none
def lenS : D → Option SV
  | .lst xs => some (.shr (.int xs.length))
  | .tup xs => some (.shr (.int xs.length))
  | .str z => if z.length ≤ lim then some (.shr (.int z.length)) else none
  | _ => none
def inS (d : D) : D → Option Bool
  | .lst xs => D.isinL d xs
  | .tup xs => D.isin d xs
  | .str z => match d with
    | .str y => some (!(Builtin.Str.occurrences z y 0 z.length 1).isEmpty)
    | _ => none
  | _ => none
/-- data that may be compared -/
def D.cmpq (d e : D) : Bool := d.okq && e.okq && PySem.W.alike d.py e.py && !(match d with | .non => true | _ => false)
def ltS : D → D → Option Bool
  | .int i, .int j => some (decide (i < j))
  | .str i, .str j => some (decide (i.cps.toList < j.cps.toList))
  | d, e => if D.cmpq d e = true then some (PySem.W.dataLt d.py e.py) else none
def leS : D → D → Option Bool
  | .int i, .int j => some (decide (i ≤ j))
  | .str i, .str j => some (!decide (j.cps.toList < i.cps.toList))
  | d, e => if D.cmpq d e = true then some (!PySem.W.dataLt e.py d.py) else none
def tupS : D → Option SV
  | .lst xs => some (.shr (.tup xs))
  | .tup xs => some (.shr (.tup xs))
  | _ => none
def lstS : D → Option SV
  | .lst xs => some (.own (.lst xs))
  | .tup xs => some (.own (.lst xs))
  | _ => none
def idxS : D → D → Option SV
  | .lst xs, d => if ((d.flat && xs.all D.flat) || (d.okq && (D.lst xs).okq)) = true then (xs.findIdx? fun y => D.eqv y d).map fun k => .shr (.int (k : Nat)) else none
  | _, _ => none
def blO : Option Bool → Option SV
  | some b => some (.shr (.bl b))
  | none => none
def nblO : Option Bool → Option SV
  | some b => some (.shr (.bl (!b)))
  | none => none
def sortS : D → Option SV
  | .lst xs => (D.ints xs).map fun is => .own (.lst ((msort is).map .int))
  | _ => none
def opSem : Op → List D → Option SV
  | .add, [d, e] => addS d e
  | .sub, [.int i, .int j] => some (.shr (.int (i - j)))
  | .mul, [d, e] => mulS d e
  | .fdiv, [.int i, .int j] => if divG j = true then some (.shr (.int (i / j))) else none
  | .mod, [.int i, .int j] => if 0 < j then some (.shr (.int (i % j))) else none
  | .pow, [.int i, .int j] => if 0 ≤ j ∧ j ≤ 1000 ∧ i.natAbs < 2 ^ 64 then some (.shr (.int (i ^ j.toNat))) else none
  | .band, [.int i, .int j] => some (.shr (.int (Builtin.bitAnd i j)))
  | .shr, [.int i, .int j] => if 0 ≤ j then some (.shr (.int (i / 2 ^ j.toNat))) else none
  | .neg, [.int i] => some (.shr (.int (-i)))
  | .eq, [d, e] => blO (D.eqq d e)
  | .ne, [d, e] => nblO (D.eqq d e)
  | .lt, [d, e] => blO (ltS d e)
  | .le, [d, e] => blO (leS d e)
  | .gt, [d, e] => blO (ltS e d)
  | .ge, [d, e] => blO (leS e d)
  | .isin, [d, e] => blO (inS d e)
  | .notin, [d, e] => nblO (inS d e)
  | .isN, [d] => some (.shr (.bl (decide (d = .non))))
  | .isnN, [d] => some (.shr (.bl (!decide (d = .non))))
  | .ix, [d, e] => ixS d e
  | .sl false false, [d] => slS none none d
  | .sl true false, [d, .int i] => slS (some i) none d
  | .sl false true, [d, .int j] => slS none (some j) d
  | .rev, [.lst xs] => some (.own (.lst xs.reverse))
  | .len, [d] => lenS d
  | .int1, [.int i] => some (.shr (.int i))
  | .str1, [.int i] => if i.natAbs.log2 < 1920 then some (.shr (.str (toString i))) else none
  | .tuple, [d] => tupS d
  | .list, [d] => lstS d
  | .sorted, [d] => sortS d
  | .all, [.lst xs] => (D.bls xs).map fun bs => .shr (.bl (bs.all id))
  | .any, [.lst xs] => (D.bls xs).map fun bs => .shr (.bl (bs.any id))
  | .sum, [.lst xs] => (D.ints xs).map fun is => .shr (.int is.sum)
  | .max2, [.int i, .int j] => some (.shr (.int (if j > i then j else i)))
  | .min2, [.int i, .int j] => some (.shr (.int (if j < i then j else i)))
  | .divmod, [.int i, .int j] => if divG j = true then some (.shr (.tup [.int (i / j), .int (i % j)])) else none
  | .isinst [t], [d] => blO (isD d t)
  | _, _ => none
def bmTy : BM → D → Bool
  | .index, .lst _ => true
  | _, _ => false
def bmSem : BM → D → List D → Option SV
  | .index, d, [e] => idxS d e
  | _, _, _ => none
def itSem : It → List D → Option (List D)
  | .seq _, [.lst xs] => some xs
  | .seq _, [.tup xs] => some xs
  | .seq _, [.frl xs] => some xs
  | .seq _, [.str z] => some (z.cps.toList.map fun c => .str ⟨#[c]⟩)
  | .rng _, [.int n] => if -(2 ^ 62) ≤ n ∧ n < 2 ^ 62 then some ((List.range n.toNat).map fun k => .int (k : Nat)) else none
  | .rng2 _ _, [.int a, .int n] => if -(2 ^ 62) ≤ a ∧ a < 2 ^ 62 ∧ -(2 ^ 62) ≤ n ∧ n < 2 ^ 62 then some ((List.range (n - a).toNat).map fun k => .int (a + (k : Nat))) else none
  | .enum _, [.lst xs] => some (xs.zipIdx.map fun p => .tup [.int p.2, p.1])
  | .zip _ _, [.lst xs, .lst ys] => some ((xs.zip ys).map fun p => .tup [p.1, p.2])
  | .zip _ _, [.tup xs, .tup ys] => some ((xs.zip ys).map fun p => .tup [p.1, p.2])
  | .rev _, [.lst xs] => some xs.reverse
  | .rev _, [.tup xs] => some xs.reverse
  | _, _ => none
/-- the new content, the result -/
def muSem : Mu → D → List D → Option (D × D)
  | .append, .lst xs, [d] => if xs.length < lim then some (.lst (xs ++ [d]), .non) else none
  | .reverse, .lst xs, [] => some (.lst xs.reverse, .non)
  | .clear, .lst _, [] => some (.lst [], .non)
  | .pop, .lst xs, [] => (xs.getLast?).map fun d => (.lst xs.dropLast, d)
  | .popat, .lst xs, [.int i] => if 0 ≤ i ∧ i < xs.length ∧ i < 2 ^ 62 then (xs[i.toNat]?).map fun d => (.lst (xs.eraseIdx i.toNat), d) else none
  | .insert, .lst xs, [.int i, d] => if 0 ≤ i ∧ i ≤ xs.length ∧ xs.length < lim then some (.lst (xs.insertIdx i.toNat d), .non) else none
  | .extend, .lst xs, [.lst ys] => if xs.length + ys.length ≤ lim then some (.lst (xs ++ ys), .non) else none
  | _, _, _ => none
/-! ### the run -/
mutual
def S.asg : Tg → D → S → Option S
  | .nm i, d, s => some (s.put i (.shr d))
  | .tup ts, .tup ds, s => S.asgs ts ds s
  | .tup _, _, _ => none
def S.asgs : List Tg → List D → S → Option S
  | [], [], s => some s
  | t :: ts, d :: ds, s => (S.asg t d s).bind fun s' => S.asgs ts ds s'
  | _, _, _ => none
end
/-- a value given away -/
def SV.d : SV → Option D
  | .shr d => some d | .own d => some d | .bor _ => none
def S.store (s : S) (i : Nat) (d : D) : Option S := match s.slot i with
  | some (.own _) => some (s.put i (.own d))
  | some (.bor k) => some ⟨s.env, s.bs.set k d⟩
  | _ => none
/-- is it one that may be changed -/
def S.mutb (s : S) (i : Nat) : Bool := match s.slot i with
  | some (.own _) => true | some (.bor _) => true | _ => false
/-- the arguments of a call -/
def S.args (s : S) : List Bool → List PV → Option (List Arg)
  | [], [] => some []
  | false :: ms, p :: ps => (s.look p).bind fun d => (s.args ms ps).map fun as => .val d :: as
  | true :: ms, .at i :: ps => if s.mutb i = true then (s.look (.at i)).bind fun d => (s.args ms ps).map fun as => .bor d :: as else none
  | _, _ => none
def borPs : List Bool → List PV → List Nat
  | true :: ms, .at i :: ps => i :: borPs ms ps
  | _ :: ms, _ :: ps => borPs ms ps
  | _, _ => []
def valPs : List Bool → List PV → List PV
  | false :: ms, p :: ps => p :: valPs ms ps
  | _ :: ms, _ :: ps => valPs ms ps
  | _, _ => []
def atsOf : List PV → List Nat
  | [] => []
  | .at i :: ps => i :: atsOf ps
  | .val _ :: ps => atsOf ps
  | .br _ :: ps => atsOf ps
def S.stores (s : S) : List Nat → List D → Option S
  | [], [] => some s
  | i :: is, d :: ds => (s.store i d).bind fun s' => s'.stores is ds
  | _, _ => none
def SV.flat : SV → Bool
  | .shr d => d.flat | .own d => d.flat1 | .bor _ => false
structure Env where
  cl : Nat → List Arg → OF
  sub : Nat → Nat → Option Bool
  wf : Nat
def callRun (E : Env) (f : Nat) (ms : List Bool) (ps : List PV) (s : S) : Out SV :=
  match s.args ms ps with
  | none => .bad
  | some as => if (decide (borPs ms ps).Nodup && (atsOf (valPs ms ps)).all fun i => decide (i ∉ borPs ms ps)) = true then
      match E.cl f as with
      | .ret v bs => if (v.flat && bs.all D.flat1) = true then match s.stores (borPs ms ps) bs with
          | none => .bad
          | some s1 => .ok v s1
        else match s.moves (valPs ms ps) with
          | none => .bad
          | some s1 => match s1.stores (borPs ms ps) bs with
            | none => .bad
            | some s2 => .ok v s2
      | .ex c p bs => if (p.isEmpty && bs.all D.flat1) = true then match s.stores (borPs ms ps) bs with
          | none => .bad
          | some s1 => .ex c p s1
        else match s.moves (valPs ms ps) with
          | none => .bad
          | some s1 => match s1.stores (borPs ms ps) bs with
            | none => .bad
            | some s2 => .ex c p s2
      | .bad => .bad
    else .bad
/-- the names of a block are forgotten -/
def S.restore (s0 s : S) (is : List Nat) : S :=
  ⟨is.foldl (fun e i => e.set i (match s0.env[i]? with | some (some (.shr d)) => some (.shr d) | _ => none)) s.env, s.bs⟩
def compNext (k : List D → S → Out (List D)) (acc : List D) : Out (Option D) → Out (List D)
  | .ok (some e) s1 => if acc.length < lim then k (acc ++ [e]) s1 else .bad
  | .ok none s1 => k acc s1
  | _ => .bad
def compRun (step : S → D → Out (Option D)) (ok : S → Bool) : List D → List D → S → Out (List D)
  | [], acc, s => if ok s = true then .ok acc s else .bad
  | d :: ds, acc, s => if ok s = true then compNext (compRun step ok ds) acc (step s d) else .bad
def pvOf : X → Out SV → S → Out PV
  | .var i, _, s => match s.slot i with
    | some _ => .ok (.at i) s
    | none => .bad
  | _, r, _ => r.bind fun v s1 => match v.d with
    | some d => .ok (.val d) s1
    | none => .bad
mutual
def evX (E : Env) : X → S → Out SV
  | .var i, s => match s.move i with
    | some (d, s1) => .ok (.shr d) s1
    | none => .bad
  | .int i, s => .ok (.shr (.int i)) s
  | .str z, s => .ok (.shr (.str z)) s
  | .bl b, s => .ok (.shr (.bl b)) s
  | .non, s => .ok (.shr .non) s
  | .glo _ d, s => .ok (.shr d) s
  | .op o xs, s => (evPs E xs s).bind fun ps s1 => .opt s1 ((s1.looks ps).bind (opSem o))
  | .lst xs, s => (evMs E xs s).bind fun ds s1 => if ds.length ≤ lim then .ok (.own (.lst ds)) s1 else .bad
  | .tup xs, s => (evMs E xs s).bind fun ds s1 => if ds.length ≤ lim then .ok (.shr (.tup ds)) s1 else .bad
  | .cmp2 o p a b c, s => (pvOf a (evX E a s) s).bind fun x s1 => (pvOf b (evX E b s1) s1).bind fun y s2 => match (s2.looks [x, y]).bind (opSem o) with
    | some (.shr (.bl true)) => (pvOf c (evX E c s2) s2).bind fun z s3 => .opt s3 ((s3.looks [y, z]).bind (opSem p))
    | some (.shr (.bl false)) => .ok (.shr (.bl false)) s2
    | _ => .bad
  | .and a b, s => (evX E a s).bind fun v s1 => match v with
    | .shr (.bl true) => evX E b s1
    | .shr (.bl false) => .ok (.shr (.bl false)) s1
    | _ => .bad
  | .or a b, s => (evX E a s).bind fun v s1 => match v with
    | .shr (.bl false) => evX E b s1
    | .shr (.bl true) => .ok (.shr (.bl true)) s1
    | _ => .bad
  | .not a, s => (evX E a s).bind fun v s1 => match v with
    | .shr (.bl b) => .ok (.shr (.bl (!b))) s1
    | _ => .bad
  | .ite t a b, s => (evT E t s).bind fun c s1 => if c = true then evX E a s1 else evX E b s1
  | .sl3 a b c, s => (pvOf a (evX E a s) s).bind fun p s1 => (pvOf b (evX E b s1) s1).bind fun q s2 => match s2.look q with
    | some (.int i) => (pvOf c (evX E c s2) s2).bind fun r s3 => match s3.look p, s3.look r with
      | some d, some (.int j) => .opt s3 (slS (some i) (some j) d)
      | _, _ => .bad
    | _ => .bad
  | .bm m o xs, s => (pvOf o (evX E o s) s).bind fun p s1 => match s1.look p with
    | some d => if bmTy m d = true then (evPs E xs s1).bind fun ps s2 => match s2.look p, s2.looks ps with
        | some d, some ds => .opt s2 (bmSem m d ds)
        | _, _ => .bad
      else .bad
    | none => .bad
  | .call f ms xs, s => (evPs E xs s).bind fun ps s1 => callRun E f ms ps s1
  | .mut m i xs, s => match s.look (.at i) with
    | some (.lst _) => (evMs E xs s).bind fun ds s1 => match (s1.look (.at i)).bind fun d => muSem m d ds with
      | some (d, r) => match s1.store i d with
        | some s2 => .ok (.shr r) s2
        | none => .bad
      | none => .bad
    | _ => .bad
  | .comp own tg it t e, s => (evIt E it s).bind fun ps s1 => match (s1.looks ps) with
    | none => .bad
    | some ds => match itSem it ds with
      | none => .bad
      | some items => (compRun (fun s d => match S.asg tg d s with
          | none => .bad
          | some s' => (evT E t s').bind fun c s2 => if c = true then (evX E e s2).bind fun v s3 => match v.d with
              | some d => .ok (some d) (s3.wipe (own.map (·.2)))
              | none => .bad
            else .ok none (s2.wipe (own.map (·.2)))) (fun s => decide (s.looks ps = some ds)) items [] (s1.wipe (own.map (·.2)))).bind fun acc s2 => .ok (.own (.lst acc)) (s1.restore s2 (own.map (·.2)))
def evPs (E : Env) : XS → S → Out (List PV)
  | .nil, s => .ok [] s
  | .cons x xs, s => (pvOf x (evX E x s) s).bind fun p s1 => (evPs E xs s1).bind fun ps s2 => .ok (p :: ps) s2
/-- given away -/
def evMs (E : Env) : XS → S → Out (List D)
  | .nil, s => .ok [] s
  | .cons x xs, s => (evX E x s).bind fun v s1 => match v.d with
    | some d => (evMs E xs s1).bind fun ds s2 => .ok (d :: ds) s2
    | none => .bad
def evT (E : Env) : T → S → Out Bool
  | .tru, s => .ok true s
  | .isN n a, s => (pvOf a (evX E a s) s).bind fun p s1 => .opt s1 ((s1.look p).map fun d => if n = true then !decide (d = .non) else decide (d = .non))
  | .x e, s => (pvOf e (evX E e s) s).bind fun p s1 => .opt s1 ((s1.look p).bind D.truth)
  | .cmp o a b, s => (pvOf a (evX E a s) s).bind fun x s1 => (pvOf b (evX E b s1) s1).bind fun y s2 => match (s2.looks [x, y]).bind (opSem o) with
    | some (.shr (.bl b)) => .ok b s2
    | _ => .bad
  | .cmp2 o p a b c, s => (pvOf a (evX E a s) s).bind fun x s1 => (pvOf b (evX E b s1) s1).bind fun y s2 => match (s2.looks [x, y]).bind (opSem o) with
    | some (.shr (.bl true)) => (pvOf c (evX E c s2) s2).bind fun z s3 => match (s3.looks [y, z]).bind (opSem p) with
      | some (.shr (.bl b)) => .ok b s3
      | _ => .bad
    | some (.shr (.bl false)) => .ok false s2
    | _ => .bad
  | .and a b, s => (evT E a s).bind fun c s1 => if c = true then evT E b s1 else .ok false s1
  | .or a b, s => (evT E a s).bind fun c s1 => if c = true then .ok true s1 else evT E b s1
  | .not a, s => (evT E a s).bind fun c s1 => .ok (!c) s1
def evIt (E : Env) : It → S → Out (List PV)
  | .seq e, s => (pvOf e (evX E e s) s).bind fun p s1 => .ok [p] s1
  | .rng a, s => (pvOf a (evX E a s) s).bind fun p s1 => .ok [p] s1
  | .rng2 a b, s => (pvOf a (evX E a s) s).bind fun p s1 => (pvOf b (evX E b s1) s1).bind fun q s2 => .ok [p, q] s2
  | .enum e, s => (pvOf e (evX E e s) s).bind fun p s1 => .ok [p] s1
  | .zip a b, s => (pvOf a (evX E a s) s).bind fun p s1 => (pvOf b (evX E b s1) s1).bind fun q s2 => .ok [p, q] s2
  | .rev e, s => (pvOf e (evX E e s) s).bind fun p s1 => .ok [p] s1
end
def O.wipe (w : List Nat) : O → O
  | .nx s => .nx (s.wipe w)
  | o => o
def O.wipeA (w : List Nat) : O → O
  | .nx s => .nx (s.wipe w)
  | .bk s => .bk (s.wipe w)
  | .ct s => .ct (s.wipe w)
  | o => o
def O.bind : O → (S → O) → O
  | .nx s, f => f s
  | o, _ => o
def loopNext (k : S → O) (w : List Nat) : O → O
  | .nx s => k s
  | .ct s => k s
  | .bk s => .nx (s.wipe w)
  | o => o
def forRun (body : S → D → O) (ok : S → Bool) (w : List Nat) : List D → S → O
  | [], s => if ok s = true then .nx (s.wipe w) else .bad
  | d :: ds, s => if ok s = true then loopNext (forRun body ok w ds) w (body (s.wipe w) d) else .bad
def whileRun (c : S → Out Bool) (body : S → O) (w : List Nat) : Nat → S → O
  | 0, _ => .bad
  | n + 1, s => (c (s.wipe w)).to fun b s1 => if b = true then loopNext (whileRun c body w n) w (body s1) else .nx (s1.wipe w)
def evBE (sub : Nat → Nat → Option Bool) (c : Nat) : BE → Option Bool
  | .isc k => sub c k
  | .isv => (sub c c).map fun _ => true
  | .and a b => match evBE sub c a with
    | some true => evBE sub c b
    | o => o
  | .or a b => match evBE sub c a with
    | some false => evBE sub c b
    | o => o
  | .not a => (evBE sub c a).map (!·)
mutual
def evHX (sub : Nat → Nat → Option Bool) (c : Nat) (p : List (Str × D)) : HX → S → Option (D × S)
  | .lit d, s => if d.flat = true then some (d, s) else none
  | .var i, s => s.move i
  | .be b, s => if p.isEmpty = true then (evBE sub c b).map fun b => (.bl b, s) else none
  | .fld f, s => (p.lookup f).map fun d => (d, s)
  | .inc i k, s => match s.look (.at i) with
    | some (.int j) => some (.int (j + k), s)
    | _ => none
  | .tup xs, s => match evHXs sub c p xs s with
    | some (ds, s1) => if ds.length ≤ lim then some (.tup ds, s1) else none
    | none => none
def evHXs (sub : Nat → Nat → Option Bool) (c : Nat) (p : List (Str × D)) : List HX → S → Option (List D × S)
  | [], s => some ([], s)
  | x :: xs, s => match evHX sub c p x s with
    | some (d, s1) => match evHXs sub c p xs s1 with
      | some (ds, s2) => some (d :: ds, s2)
      | none => none
    | none => none
end
mutual
def exH (sub : Nat → Nat → Option Bool) (c : Nat) (p : List (Str × D)) : HC → S → O
  | .pass, s => .nx s
  | .brk, s => .bk s
  | .cont, s => .ct s
  | .retn, s => .rt (.shr .non) s
  | .ret x, s => match evHX sub c p x s with
    | some (d, s1) => .rt (.shr d) s1
    | none => .bad
  | .set i x, s => match evHX sub c p x s with
    | some (d, s1) => if i < s1.env.length then .nx (s1.put i (.shr d)) else .bad
    | none => .bad
  | .iff b h g, s => if p.isEmpty = true then match evBE sub c b with
    | some true => exHs sub c p h s
    | some false => exHs sub c p g s
    | none => .bad
    else .bad
def exHs (sub : Nat → Nat → Option Bool) (c : Nat) (p : List (Str × D)) : List HC → S → O
  | [], s => .nx s
  | h :: hs, s => (exH sub c p h s).bind fun s1 => exHs sub c p hs s1
end
mutual
def exC (E : Env) : C → S → O
  | .pass, s => .nx s
  | .brk, s => .bk s
  | .cont, s => .ct s
  | .expr e, s => (evX E e s).to fun _ s1 => .nx s1
  | .set i e, s => (evX E e s).to fun v s1 => if i < s1.env.length then .nx (s1.put i v) else .bad
  | .setf i e, s => (evX E e s).to fun v s1 => match v.d with
    | some d => if i < s1.env.length then .nx (s1.put i (.shr d)) else .bad
    | none => .bad
  | .asg t e, s => (evX E e s).to fun v s1 => match v.d with
    | some d => match S.asg t d s1 with
      | some s2 => .nx s2
      | none => .bad
    | none => .bad
  | .retn, s => .rt (.shr .non) s
  | .ret e, s => (evX E e s).to fun v s1 => .rt v s1
  | .retv i, s => match s.slot i with
    | some (.own d) => .rt (.own d) (s.wipe [i])
    | some (.shr d) => .rt (.shr d) s
    | _ => .bad
  | .setix i k e, s => (evX E e s).to fun v s1 => match v.d with
    | some d => match s1.slot i with
      | some _ => (pvOf k (evX E k s1) s1).to fun p s2 => match s2.look (.at i), s2.look p with
        | some (.lst xs), some (.int j) => match ixN xs.length j with
          | some n => match s2.store i (.lst (xs.set n d)) with
            | some s3 => .nx s3
            | none => .bad
          | none => .bad
        | _, _ => .bad
      | none => .bad
    | none => .bad
  | .iff t a b w, s => (evT E t s).to fun c s1 => (if c = true then exCs E a s1 else exCs E b s1).wipe w
  | .for tg it b w, s => (evIt E it s).to fun ps0 s0 => match s0.fixes ps0 with
    | none => .bad
    | some (ps, s1) => match s1.looks ps with
      | none => .bad
      | some ds => match itSem it ds with
        | none => .bad
        | some items => forRun (fun s d => match S.asg tg d s with
        | none => .bad
        | some s' => exCs E b s') (fun s => decide (s.looks ps = some ds)) w items s1
  | .while t b w, s => whileRun (evT E t) (exCs E b) w E.wf s
  | .raise c, s => .ex c [] s
  | .try1 b c i h w, s => (match exCs E b s with
    | .ex c' p s1 => match E.sub c' c with
      | some true => if (i.toList.all fun j => decide (j < s1.env.length)) = true then (exHs E.sub c' p h (s1.wipe i.toList)).wipeA i.toList else .bad
      | some false => .ex c' p s1
      | none => .bad
    | o => o).wipe w
def exCs (E : Env) : List C → S → O
  | [], s => .nx s
  | c :: cs, s => (exC E c s).bind fun s1 => exCs E cs s1
end
structure FI where
  name : Str
  ps : List Str
  N : List Str
  ms : List Bool
  body : List C
def initEnv : List Arg → Nat → List (Option SV)
  | [], _ => []
  | .val d :: as, k => some (.shr d) :: initEnv as k
  | .bor _ :: as, k => some (.bor k) :: initEnv as (k + 1)
def initBs : List Arg → List D
  | [] => []
  | .val _ :: as => initBs as
  | .bor d :: as => d :: initBs as
def FI.init (I : FI) (as : List Arg) : S := ⟨initEnv as 0 ++ List.replicate (I.N.length - as.length) none, initBs as⟩
def O.fn : O → OF
  | .nx s => .ret (.shr .non) s.bs
  | .rt (.bor _) _ => .bad
  | .rt v s => .ret v s.bs
  | .ex c p s => .ex c p s.bs
  | _ => .bad
def Arg.m : Arg → Bool
  | .val _ => false | .bor _ => true
def runF (E : Env) (I : FI) (as : List Arg) : OF := if as.map Arg.m = I.ms then (exCs E I.body (I.init as)).fn else .bad
structure Prog where
  fs : List FI
  sub : Nat → Nat → Option Bool
  wf : Nat
def Prog.call (P : Prog) : Nat → Nat → List Arg → OF
  | 0, _, _ => .bad
  | n + 1, f, as => match P.fs[f]? with
    | some I => runF ⟨P.call n, P.sub, P.wf⟩ I as
    | none => .bad
end Den
set_option Elab.async false
set_option linter.all false
set_option maxRecDepth 100000
set_option autoImplicit false
set_option maxHeartbeats 4000000
namespace Den
open PySem PySem.Spec PyProof.Rows L2
abbrev Ex := Evl.Ex
/-- an object of that content, whose parts stand in G -/
def kD : Key → D
  | .inl i => .int i
  | .inr x => .str x
section
variable (K : PySem.W.Frag) (CA : Nat → Option Addr)
mutual
/-- the value is that data -/
inductive Rep (H : Hp) : V → D → Prop
  | non : Rep H .non .non
  | bl (b : Bool) : Rep H (.bl b) (.bl b)
  | int (i : Int) : Rep H (.int i) (.int i)
  | str (x : Str) : Rep H (.str x) (.str x)
  | lst {a : Addr} {vs : List V} {ds : List D} : H a = some (.lst vs) → Reps H vs ds → Rep H (.ref a) (.lst ds)
  | tup {a : Addr} {vs : List V} {ds : List D} : SqT K H a vs → Reps H vs ds → Rep H (.ref a) (.tup ds)
  | frl {a : Addr} {vs : List V} {ds : List D} : SqL K H a vs → Reps H vs ds → Rep H (.ref a) (.frl ds)
  | dic {a : Addr} {kvs : List (Key × V)} {ds : List D} : H a = some (.dK kvs) → Reps H (kvs.map (·.2)) ds → Rep H (.ref a) (.dic (kvs.map fun p => kD p.1) ds)
  | obj {a C dx : Addr} {c : Nat} {fs : List (Str × V)} {ds : List D} : CA c = some C → H a = some (.ins C dx fs) → Reps H (fs.map (·.2)) ds → Rep H (.ref a) (.obj c (fs.map (·.1)) ds)
inductive Reps (H : Hp) : List V → List D → Prop
  | nil : Reps H [] []
  | cons {v : V} {vs : List V} {d : D} {ds : List D} : Rep H v d → Reps H vs ds → Reps H (v :: vs) (d :: ds)
end
end
section
variable {K : PySem.W.Frag} {CA : Nat → Option Addr} {H H' G G' : Hp}
theorem Rep.mono (e : Ex H H') : ∀ {v : V} {d : D}, Rep K CA H v d → Rep K CA H' v d := fun {v d} h => by
  induction h using Rep.rec (motive_2 := fun vs ds _ => Reps K CA H' vs ds) with
  | non => exact .non
  | bl b => exact .bl b
  | int i => exact .int i
  | str x => exact .str x
  | lst h _ r => exact .lst (e _ _ h) r
  | tup h _ r => exact .tup (Evl.ex_t e h) r
  | frl h _ r => exact .frl (Evl.ex_l e h) r
  | dic h _ r => exact .dic (e _ _ h) r
  | obj c h _ r => exact .obj c (e _ _ h) r
  | nil => exact .nil
  | cons _ _ r1 r2 => exact .cons r1 r2
theorem Reps.mono (e : Ex H H') : ∀ {vs : List V} {ds : List D}, Reps K CA H vs ds → Reps K CA H' vs ds
  | _, _, .nil => .nil
  | _, _, .cons r t => .cons (r.mono e) (Reps.mono e t)
theorem Reps.length : ∀ {vs : List V} {ds : List D}, Reps K CA H vs ds → vs.length = ds.length
  | _, _, .nil => rfl
  | _, _, .cons _ t => by simp [Reps.length t]
theorem Reps.get : ∀ {vs : List V} {ds : List D} {i : Nat} {d : D}, Reps K CA H vs ds → ds[i]? = some d → ∃ v, vs[i]? = some v ∧ Rep K CA H v d
  | _, _, _, _, .nil, e => by simp at e
  | _, _, 0, d, .cons r _, e => by simp at e; subst e; exact ⟨_, rfl, r⟩
  | _, _, i + 1, d, .cons _ t, e => by
    obtain ⟨u, h1, h2⟩ := Reps.get (i := i) (d := d) t (by simpa using e)
    exact ⟨u, by simpa using h1, h2⟩
theorem Reps.getV : ∀ {vs : List V} {ds : List D} {i : Nat} {v : V}, Reps K CA H vs ds → vs[i]? = some v → ∃ d, ds[i]? = some d ∧ Rep K CA H v d
  | _, _, _, _, .nil, e => by simp at e
  | _, _, 0, d, .cons r _, e => by simp at e; subst e; exact ⟨_, rfl, r⟩
  | _, _, i + 1, d, .cons _ t, e => by
    obtain ⟨u, h1, h2⟩ := Reps.getV (i := i) (v := d) t (by simpa using e)
    exact ⟨u, by simpa using h1, h2⟩
theorem Reps.append : ∀ {vs ws : List V} {ds es : List D}, Reps K CA H vs ds → Reps K CA H ws es → Reps K CA H (vs ++ ws) (ds ++ es)
  | _, _, _, _, .nil, s => s
  | _, _, _, _, .cons r t, s => .cons r (Reps.append t s)
theorem Reps.one {v : V} {d : D} (r : Rep K CA H v d) : Reps K CA H [v] [d] := .cons r .nil
theorem Reps.take : ∀ {vs : List V} {ds : List D} (n : Nat), Reps K CA H vs ds → Reps K CA H (vs.take n) (ds.take n)
  | _, _, 0, _ => .nil
  | _, _, _ + 1, .nil => .nil
  | _, _, n + 1, .cons r t => .cons r (Reps.take n t)
theorem Reps.drop : ∀ {vs : List V} {ds : List D} (n : Nat), Reps K CA H vs ds → Reps K CA H (vs.drop n) (ds.drop n)
  | _, _, 0, r => r
  | _, _, _ + 1, .nil => .nil
  | _, _, n + 1, .cons _ t => Reps.drop n t
theorem Reps.set {v : V} {d : D} (r : Rep K CA H v d) : ∀ {vs : List V} {ds : List D} (i : Nat), Reps K CA H vs ds → Reps K CA H (vs.set i v) (ds.set i d)
  | _, _, _, .nil => .nil
  | _, _, 0, .cons _ t => .cons r t
  | _, _, i + 1, .cons q t => .cons q (Reps.set r i t)
theorem Reps.reverse : ∀ {vs : List V} {ds : List D}, Reps K CA H vs ds → Reps K CA H vs.reverse ds.reverse
  | _, _, .nil => .nil
  | _, _, .cons r t => by rw [List.reverse_cons, List.reverse_cons]; exact (Reps.reverse t).append (.one r)
theorem Reps.eraseIdx : ∀ {vs : List V} {ds : List D} (i : Nat), Reps K CA H vs ds → Reps K CA H (vs.eraseIdx i) (ds.eraseIdx i)
  | _, _, _, .nil => .nil
  | _, _, 0, .cons _ t => t
  | _, _, i + 1, .cons q t => .cons q (Reps.eraseIdx i t)
theorem Reps.insertIdx {v : V} {d : D} (r : Rep K CA H v d) : ∀ {vs : List V} {ds : List D} (i : Nat), Reps K CA H vs ds → Reps K CA H (vs.insertIdx i v) (ds.insertIdx i d)
  | _, _, 0, t => .cons r t
  | _, _, _ + 1, .nil => .nil
  | _, _, i + 1, .cons q t => .cons q (Reps.insertIdx r i t)
theorem Reps.dropLast {vs : List V} {ds : List D} (h : Reps K CA H vs ds) : Reps K CA H vs.dropLast ds.dropLast := by
  rw [List.dropLast_eq_take, List.dropLast_eq_take, h.length]
  exact h.take _
/-- the flat values -/
theorem Rep.flatV {v : V} {d : D} (h : Rep K CA H v d) (f : d.flat = true) : d.v = some v := by
  cases h <;> first | rfl | (exact Bool.noConfusion f)
theorem Rep.ofV {v : V} {d : D} (h : d.v = some v) : Rep K CA H v d := by
  cases d <;> first | (cases h; constructor) | cases h
theorem D.v_flat {d : D} (h : d.flat = true) : ∃ v, d.v = some v := by
  cases d <;> first | exact ⟨_, rfl⟩ | (exact Bool.noConfusion h)
theorem Rep.int' {v : V} {i : Int} (h : Rep K CA H v (.int i)) : v = .int i := by cases h; rfl
theorem Rep.str' {v : V} {i : Str} (h : Rep K CA H v (.str i)) : v = .str i := by cases h; rfl
theorem Rep.bl' {v : V} {i : Bool} (h : Rep K CA H v (.bl i)) : v = .bl i := by cases h; rfl
theorem Rep.non' {v : V} (h : Rep K CA H v .non) : v = .non := by cases h; rfl
/-- the object at p has that content, its parts stand in G -/
inductive One (K : PySem.W.Frag) (CA : Nat → Option Addr) (G H : Hp) (p : Addr) : D → Prop
  | lst {vs : List V} {ds : List D} : H p = some (.lst vs) → Reps K CA G vs ds → One K CA G H p (.lst ds)
  | dic {kvs : List (Key × V)} {ds : List D} : H p = some (.dK kvs) → Reps K CA G (kvs.map (·.2)) ds → One K CA G H p (.dic (kvs.map fun p => kD p.1) ds)
  | obj {C dx : Addr} {c : Nat} {fs : List (Str × V)} {ds : List D} : CA c = some C → H p = some (.ins C dx fs) → Reps K CA G (fs.map (·.2)) ds → One K CA G H p (.obj c (fs.map (·.1)) ds)
theorem One.there {p : Addr} {d : D} (h : One K CA G H p d) : ∃ o, H p = some o := by
  cases h with
  | lst h _ => exact ⟨_, h⟩
  | dic h _ => exact ⟨_, h⟩
  | obj _ h _ => exact ⟨_, h⟩
theorem One.mono {p : Addr} {d : D} (h : One K CA G H p d) (eG : Ex G G') (eH : ∀ o, H p = some o → H' p = some o) : One K CA G' H' p d := by
  cases h with
  | lst h r => exact .lst (eH _ h) (r.mono eG)
  | dic h r => exact .dic (eH _ h) (r.mono eG)
  | obj c h r => exact .obj c (eH _ h) (r.mono eG)
theorem One.rep {p : Addr} {d : D} (h : One K CA G H p d) (e : Ex G H) : Rep K CA H (.ref p) d := by
  cases h with
  | lst h r => exact .lst h (r.mono e)
  | dic h r => exact .dic h (r.mono e)
  | obj c h r => exact .obj c h (r.mono e)
/-- from now on shared -/
theorem One.freeze {p : Addr} {d : D} (h : One K CA G H p d) (n : G p = none) : ∃ o, H p = some o ∧ Rep K CA (upd G p o) (.ref p) d := by
  cases h with
  | lst h r => exact ⟨_, h, .lst upd_same (r.mono (Evl.Ex.new n))⟩
  | dic h r => exact ⟨_, h, .dic upd_same (r.mono (Evl.Ex.new n))⟩
  | obj c h r => exact ⟨_, h, .obj c upd_same (r.mono (Evl.Ex.new n))⟩
theorem Ex.upd_both {p : Addr} {o : HO} (e : Ex G H) (h : H p = some o) : Ex (upd G p o) H := fun a u x => by
  by_cases z : a = p
  · subst z; rw [upd_same] at x; cases x; exact h
  · rw [upd_ne z] at x; exact e a u x
theorem Ex.upd_free {p : Addr} {o : HO} (e : Ex G H) (n : G p = none) : Ex G (upd H p o) := fun a u x => by
  rw [upd_ne (ne_of_none x n)]
  exact e a u x
theorem Ex.updU {p : Addr} {o : HO} (e : Ex G H) : Ex (upd G p o) (upd H p o) := fun a u x => by
  by_cases z : a = p
  · subst z; rw [upd_same] at x ⊢; exact x
  · rw [upd_ne z] at x ⊢; exact e a u x
end
/-! ### the state -/
/-- what is fixed in a def's run: the heap at the entry, the part of it that is shared, the objects that are lent -/
structure Fr where
  K : PySem.W.Frag
  CA : Nat → Option Addr
  H0 : Hp
  B : Hp
  rs : List Addr
def Slot (F : Fr) (G H : Hp) (v : V) : SV → Prop
  | .shr d => Rep F.K F.CA G v d
  | .own d => ∃ p, v = .ref p ∧ One F.K F.CA G H p d ∧ G p = none ∧ F.H0 p = none
  | .bor k => ∃ p, F.rs[k]? = some p ∧ v = .ref p
def SV.mutb : SV → Bool
  | .shr _ => false | .own _ => true | .bor _ => true
structure RS (F : Fr) (G H : Hp) (σ : L2.St) (s : S) : Prop where
  len : s.env.length = σ.length
  bh : Ex F.B F.H0
  nd : F.rs.Nodup
  lent : ∀ p ∈ F.rs, ∃ o, F.H0 p = some o
  keep : ∀ a o, a ∉ F.rs → F.H0 a = some o → H a = some o
  bg : Ex F.B G
  gh : Ex G H
  fresh : ∀ a, G a ≠ none → F.B a ≠ none ∨ F.H0 a = none
  blen : s.bs.length = F.rs.length
  bors : ∀ (k : Nat) (p : Addr) (d : D), F.rs[k]? = some p → s.bs[k]? = some d → One F.K F.CA G H p d ∧ G p = none
  slots : ∀ (i : Nat) (x : SV), s.env[i]? = some (some x) → ∃ v, σ[i]? = some (some v) ∧ Slot F G H v x
  inj : ∀ (i j : Nat) (x y : SV), s.env[i]? = some (some x) → s.env[j]? = some (some y) → x.mutb = true → y.mutb = true → σ[i]? = σ[j]? → i = j
section
variable {F : Fr} {G H G' H' : Hp} {σ : L2.St} {s : S}
theorem RS.brs (R : RS F G H σ s) {p : Addr} (h : p ∈ F.rs) : ∃ d, One F.K F.CA G H p d ∧ G p = none := by
  obtain ⟨k, hk, e⟩ := List.mem_iff_getElem.mp h
  have hk' : k < s.bs.length := by rw [R.blen]; exact hk
  exact ⟨_, R.bors k p s.bs[k] (by rw [List.getElem?_eq_getElem hk, e]) (List.getElem?_eq_getElem hk')⟩
theorem RS.h0 (R : RS F G H σ s) {a : Addr} (h : H a = none) : F.H0 a = none := by
  cases e : F.H0 a with
  | none => rfl
  | some o =>
    by_cases m : a ∈ F.rs
    · obtain ⟨d, q, _⟩ := R.brs m
      obtain ⟨o', q⟩ := q.there
      rw [h] at q; cases q
    · have := R.keep a o m e
      rw [h] at this; cases this
/-- what is shared grows by what is new -/
structure Grow (G H G' H' : Hp) : Prop where
  g : Ex G G'
  h : Ex H H'
  gh : Ex G' H'
  new : ∀ a, G' a ≠ none → G a ≠ none ∨ H a = none
theorem Grow.refl (e : Ex G H) : Grow G H G H := ⟨Evl.Ex.refl _, Evl.Ex.refl _, e, fun _ h => .inl h⟩
theorem Slot.grow (R : RS F G H σ s) (g : Grow G H G' H') {v : V} {x : SV} (h : Slot F G H v x) : Slot F G' H' v x := by
  cases x with
  | shr d => exact Rep.mono g.g h
  | own d =>
    obtain ⟨p, rfl, o, n, z⟩ := h
    obtain ⟨u, hu⟩ := o.there
    refine ⟨p, rfl, o.mono g.g (fun o q => g.h _ _ q), ?_, z⟩
    cases e : G' p with
    | none => rfl
    | some w =>
      rcases g.new p (by rw [e]; exact fun z => nomatch z) with q | q
      · exact absurd n q
      · rw [hu] at q; cases q
  | bor k => exact h
theorem RS.grow (R : RS F G H σ s) (g : Grow G H G' H') : RS F G' H' σ s where
  len := R.len
  bh := R.bh
  nd := R.nd
  lent := R.lent
  keep := fun a o m e => g.h _ _ (R.keep a o m e)
  bg := R.bg.trans g.g
  gh := g.gh
  fresh := fun a h => by
    rcases g.new a h with q | q
    · exact R.fresh a q
    · exact .inr (R.h0 q)
  blen := R.blen
  bors := fun k p d e1 e2 => by
    obtain ⟨o, n⟩ := R.bors k p d e1 e2
    obtain ⟨u, hu⟩ := o.there
    refine ⟨o.mono g.g (fun o q => g.h _ _ q), ?_⟩
    cases e : G' p with
    | none => rfl
    | some w =>
      rcases g.new p (by rw [e]; exact fun z => nomatch z) with q | q
      · exact absurd n q
      · rw [hu] at q; cases q
  slots := fun i x e => by
    obtain ⟨v, e1, q⟩ := R.slots i x e
    exact ⟨v, e1, q.grow R g⟩
  inj := R.inj
/-- a new object that is shared -/
theorem Grow.newG {p : Addr} {o : HO} (e : Ex G H) (h : H p = none) : Grow G H (upd G p o) (upd H p o) where
  g := Evl.Ex.new (by
    cases q : G p with
    | none => rfl
    | some u => have := e _ _ q; rw [h] at this; cases this)
  h := Evl.Ex.new h
  gh := Ex.updU e
  new := fun a q => by
    by_cases z : a = p
    · subst z; exact .inr h
    · rw [upd_ne z] at q; exact .inl q
/-- a new object that is not -/
theorem Grow.newH {p : Addr} {o : HO} (e : Ex G H) (h : H p = none) : Grow G H G (upd H p o) where
  g := Evl.Ex.refl _
  h := Evl.Ex.new h
  gh := e.trans (Evl.Ex.new h)
  new := fun a q => .inl q
theorem gnone (e : Ex G H) {p : Addr} (h : H p = none) : G p = none := by
  cases q : G p with
  | none => rfl
  | some u => have := e _ _ q; rw [h] at this; cases this
/-- a result: shared, or a new object that no name holds -/
def Res (F : Fr) (G H : Hp) (σ : L2.St) (s : S) (v : V) (x : SV) : Prop :=
  Slot F G H v x ∧ (∀ k, x ≠ .bor k) ∧ (x.mutb = true → ∀ (i : Nat) (y : SV), s.env[i]? = some (some y) → y.mutb = true → σ[i]? ≠ some (some v))
theorem Res.shr {v : V} {d : D} (h : Rep F.K F.CA G v d) : Res F G H σ s v (.shr d) := ⟨h, fun _ => (by intro z; cases z), fun z => by cases z⟩
theorem Res.own {p : Addr} {d : D} (R : RS F G H σ s) (h : H p = none) {o : HO} (e : One F.K F.CA G (upd H p o) p d) : Res F G (upd H p o) σ s (.ref p) (.own d) :=
  ⟨⟨p, rfl, e, gnone R.gh h, R.h0 h⟩, fun _ => (by intro z; cases z), fun _ i y e1 e2 q => by
    obtain ⟨v, e3, sl⟩ := R.slots i y e1
    rw [e3] at q
    cases q
    cases y with
    | shr d => cases e2
    | own d =>
      obtain ⟨p', e4, o4, _⟩ := sl
      cases e4
      obtain ⟨u, hu⟩ := o4.there
      rw [h] at hu; cases hu
    | bor k =>
      obtain ⟨p', e4, e5⟩ := sl
      cases e5
      obtain ⟨d, o4, _⟩ := R.brs (List.mem_of_getElem? e4)
      obtain ⟨u, hu⟩ := o4.there
      rw [h] at hu; cases hu⟩
/-- a result is given away -/
theorem Res.freeze {v : V} {x : SV} {d : D} (R : RS F G H σ s) (h : Res F G H σ s v x) (e : x.d = some d) : ∃ G', Ex G G' ∧ RS F G' H σ s ∧ Rep F.K F.CA G' v d := by
  obtain ⟨h, _, h3⟩ := h
  cases x with
  | shr d' => cases e; exact ⟨G, Evl.Ex.refl _, R, h⟩
  | own d' =>
    cases e
    obtain ⟨p, rfl, o, n, z⟩ := h
    obtain ⟨u, hu, r⟩ := o.freeze n
    have ex : Ex G (upd G p u) := Evl.Ex.new n
    have nm : ∀ (i : Nat) (y : SV) (q : Addr), s.env[i]? = some (some y) → y.mutb = true → σ[i]? = some (some (.ref q)) → q ≠ p := fun i y q e1 e2 e3 z => h3 rfl i y e1 e2 (by rw [e3, z])
    refine ⟨upd G p u, ex, ⟨R.len, R.bh, R.nd, R.lent, R.keep, R.bg.trans ex, Ex.upd_both R.gh hu, fun a q => ?_, R.blen, fun k p' d e1 e2 => ?_, fun i x e => ?_, R.inj⟩, r⟩
    · by_cases w : a = p
      · subst w; exact .inr z
      · rw [upd_ne w] at q; exact R.fresh a q
    · obtain ⟨o', n'⟩ := R.bors k p' d e1 e2
      have w : p' ≠ p := fun w => by
        subst w
        obtain ⟨u', hu'⟩ := R.lent p' (List.mem_of_getElem? e1)
        rw [z] at hu'; cases hu'
      exact ⟨o'.mono ex fun _ q => q, by rw [upd_ne w]; exact n'⟩
    · obtain ⟨v, e1, sl⟩ := R.slots i x e
      refine ⟨v, e1, ?_⟩
      cases x with
      | shr d => exact Rep.mono ex sl
      | bor k => exact sl
      | own d =>
        obtain ⟨p', rfl, o', n', z'⟩ := sl
        exact ⟨p', rfl, o'.mono ex fun _ q => q, by rw [upd_ne (nm i _ p' e rfl e1)]; exact n', z'⟩
  | bor k => cases e
/-- an own object becomes shared: the slots that hold it are said to hold it so -/
theorem RS.share' (R : RS F G H σ s) {i : Nat} {d : D} (h : s.slot i = some (.own d)) : ∃ G' v, Ex G G' ∧ RS F G' H σ (s.put i (.shr d)) ∧ σ[i]? = some (some v) ∧ Rep F.K F.CA G' v d ∧ ∀ a, G' a ≠ none → G a ≠ none ∨ v = .ref a := by
  have hi : s.env[i]? = some (some (.own d)) := by
    unfold S.slot at h
    cases e : s.env[i]? with
    | none => rw [e] at h; cases h
    | some x => rw [e] at h; cases x with
      | none => cases h
      | some y => simp at h; rw [h]
  obtain ⟨v, e1, p, rfl, o, n, z⟩ := R.slots i _ hi
  obtain ⟨u, hu, r⟩ := o.freeze n
  have ex : Ex G (upd G p u) := Evl.Ex.new n
  have hlt : i < s.env.length := (List.getElem?_eq_some_iff.mp hi).1
  have nm : ∀ (j : Nat) (y : SV) (q : Addr), j ≠ i → s.env[j]? = some (some y) → y.mutb = true → σ[j]? = some (some (.ref q)) → q ≠ p := fun j y q hne e1' e2 e3 w => by
    subst w
    exact hne (R.inj j i y _ e1' hi e2 rfl (by rw [e3, e1]))
  refine ⟨upd G p u, .ref p, ex, ⟨by simp [S.put, R.len], R.bh, R.nd, R.lent, R.keep, R.bg.trans ex, Ex.upd_both R.gh hu, fun a q => ?_, R.blen, fun k p' d' e1' e2' => ?_, fun j x e => ?_, fun j l x y e1' e2' m1 m2 e3' => ?_⟩, e1, r, fun a q => by
    by_cases w : a = p
    · exact .inr (by rw [w])
    · rw [upd_ne w] at q; exact .inl q⟩
  · by_cases w : a = p
    · subst w; exact .inr z
    · rw [upd_ne w] at q; exact R.fresh a q
  · obtain ⟨o', n'⟩ := R.bors k p' d' e1' e2'
    have w : p' ≠ p := fun w => by
      subst w
      obtain ⟨u', hu'⟩ := R.lent p' (List.mem_of_getElem? e1')
      rw [z] at hu'; cases hu'
    exact ⟨o'.mono ex fun _ q => q, by rw [upd_ne w]; exact n'⟩
  · by_cases hj : j = i
    · subst hj
      have : (s.put j (.shr d)).env[j]? = some (some (.shr d)) := by simp [S.put, hlt]
      rw [this] at e
      cases e
      exact ⟨_, e1, r⟩
    · have : (s.put i (.shr d)).env[j]? = s.env[j]? := by simp [S.put, List.getElem?_set_ne (Ne.symm hj)]
      rw [this] at e
      obtain ⟨v, e2, sl⟩ := R.slots j x e
      refine ⟨v, e2, ?_⟩
      cases x with
      | shr d => exact Rep.mono ex sl
      | bor k => exact sl
      | own d =>
        obtain ⟨p', rfl, o', n', z'⟩ := sl
        exact ⟨p', rfl, o'.mono ex fun _ q => q, by rw [upd_ne (nm j _ p' hj e rfl e2)]; exact n', z'⟩
  · have get : ∀ (j : Nat) (x : SV), (s.put i (.shr d)).env[j]? = some (some x) → x.mutb = true → s.env[j]? = some (some x) := fun j x e m => by
      by_cases hj : j = i
      · subst hj
        have : (s.put j (.shr d)).env[j]? = some (some (.shr d)) := by simp [S.put, hlt]
        rw [this] at e
        cases e
        cases m
      · have : (s.put i (.shr d)).env[j]? = s.env[j]? := by simp [S.put, List.getElem?_set_ne (Ne.symm hj)]
        rw [this] at e
        exact e
    exact R.inj j l x y (get j x e1' m1) (get l y e2' m2) m1 m2 e3'
theorem RS.share (R : RS F G H σ s) {i : Nat} {d : D} (h : s.slot i = some (.own d)) : ∃ G' v, Ex G G' ∧ RS F G' H σ (s.put i (.shr d)) ∧ σ[i]? = some (some v) ∧ Rep F.K F.CA G' v d := by
  obtain ⟨G', v, a, b, c, d, _⟩ := R.share' h
  exact ⟨G', v, a, b, c, d⟩
theorem slot_env {s : S} {i : Nat} {x : SV} (h : s.slot i = some x) : s.env[i]? = some (some x) := by
  unfold S.slot at h
  cases e : s.env[i]? with
  | none => rw [e] at h; cases h
  | some x => rw [e] at h; cases x with
    | none => cases h
    | some y => simp at h; rw [h]
theorem RS.move (R : RS F G H σ s) {i : Nat} {d : D} {s' : S} (h : s.move i = some (d, s')) : ∃ G' v, Ex G G' ∧ RS F G' H σ s' ∧ σ[i]? = some (some v) ∧ Rep F.K F.CA G' v d := by
  unfold S.move at h
  split at h
  · rename_i d' e
    cases h
    obtain ⟨v, e1, sl⟩ := R.slots i _ (slot_env e)
    exact ⟨G, v, Evl.Ex.refl _, R, e1, sl⟩
  · rename_i d' e
    cases h
    exact R.share e
  · cases h
theorem RS.move' (R : RS F G H σ s) {i : Nat} {d : D} {s' : S} (h : s.move i = some (d, s')) : ∃ G' v, Ex G G' ∧ RS F G' H σ s' ∧ σ[i]? = some (some v) ∧ Rep F.K F.CA G' v d ∧ ∀ a, G' a ≠ none → G a ≠ none ∨ (v = .ref a ∧ ∃ y, s.env[i]? = some (some y) ∧ y.mutb = true) := by
  unfold S.move at h
  split at h
  · rename_i d' e
    cases h
    obtain ⟨v, e1, sl⟩ := R.slots i _ (slot_env e)
    exact ⟨G, v, Evl.Ex.refl _, R, e1, sl, fun _ h => .inl h⟩
  · rename_i d' e
    cases h
    obtain ⟨G', v, a, b, c, d, n⟩ := R.share' e
    exact ⟨G', v, a, b, c, d, fun x q => (n x q).imp id fun z => ⟨z, _, slot_env e, rfl⟩⟩
  · cases h
theorem RS.moves : ∀ {ps : List PV} {G : Hp} {s s' : S}, RS F G H σ s → s.moves ps = some s' → ∃ G', Ex G G' ∧ RS F G' H σ s' ∧ (∀ i ∈ atsOf ps, ∃ d v, σ[i]? = some (some v) ∧ s.look (.at i) = some d ∧ Rep F.K F.CA G' v d) ∧ (∀ a, G' a ≠ none → G a ≠ none ∨ ∃ i ∈ atsOf ps, σ[i]? = some (some (.ref a)) ∧ ∃ y, s.env[i]? = some (some y) ∧ y.mutb = true) := by
  intro ps
  induction ps with
  | nil => intro G s s' R h; cases h; exact ⟨G, Evl.Ex.refl _, R, fun i hi => absurd hi (by simp [atsOf]), fun _ h => .inl h⟩
  | cons p ps ih =>
    intro G s s' R h
    cases p with
    | val d => exact ih R h
    | br k => cases h
    | «at» i =>
      unfold S.moves at h
      split at h
      · rename_i d s1 e
        obtain ⟨G1, v, x1, R1, e1, r1, nw⟩ := R.move' e
        obtain ⟨G2, x2, R2, hm, nw2⟩ := ih R1 h
        have ev : ∀ (j : Nat) (y : SV), s1.env[j]? = some (some y) → y.mutb = true → s.env[j]? = some (some y) := fun j y q m => by
          unfold S.move at e
          split at e
          · cases e; exact q
          · rename_i d' e'
            cases e
            have he := slot_env e'
            have hlt : i < s.env.length := (List.getElem?_eq_some_iff.mp he).1
            have q : (s.env.set i (some (.shr d)))[j]? = some (some y) := q
            by_cases hj : i = j
            · subst hj
              rw [List.getElem?_set_self hlt] at q
              cases q
              cases m
            · rw [List.getElem?_set_ne hj] at q; exact q
          · cases e
        refine ⟨G2, x1.trans x2, R2, ?_, fun a q => ?_⟩
        rotate_left
        · rcases nw2 a q with q | ⟨j, hj, q1, y, q2, q3⟩
          · rcases nw a q with q | ⟨q1, q2⟩
            · exact .inl q
            · exact .inr ⟨i, List.mem_cons_self, by rw [e1, q1], q2⟩
          · exact .inr ⟨j, List.mem_cons_of_mem _ hj, q1, y, ev j y q2 q3, q3⟩
        refine fun j hj => ?_
        -- what was looked at before the first move
        have lk : ∀ j, s1.look (.at j) = s.look (.at j) := fun j => by
          unfold S.move at e
          split at e
          · cases e; rfl
          · rename_i d' e'
            cases e
            have he := slot_env e'
            have hlt : i < s.env.length := (List.getElem?_eq_some_iff.mp he).1
            by_cases hj : j = i
            · subst hj
              have e3 : s.look (.at j) = some d := by show (s.slot j).bind s.data = some d; rw [e']; rfl
              rw [e3]
              simp [S.look, S.slot, S.put, hlt]
              rfl
            · simp [S.look, S.slot, S.put, List.getElem?_set_ne (Ne.symm hj)]
              cases s.env[j]? with
              | none => rfl
              | some y => cases y with
                | none => rfl
                | some z => cases z <;> rfl
          · cases e
        rcases List.mem_cons.mp (show j ∈ i :: atsOf ps from hj) with rfl | hj'
        · refine ⟨d, v, e1, ?_, r1.mono x2⟩
          unfold S.move at e
          split at e
          · rename_i d' e'; cases e; simp [S.look, e', S.data]
          · rename_i d' e'; cases e; simp [S.look, e', S.data]
          · cases e
        · obtain ⟨d', v', q1, q2, q3⟩ := hm j hj'
          exact ⟨d', v', q1, by rw [← lk]; exact q2, q3⟩
      · cases h
/-- the data of an operand -/
inductive Pk (F : Fr) (G H : Hp) (v : V) (d : D) : Prop
  | g : Rep F.K F.CA G v d → Pk F G H v d
  | o {p : Addr} : v = .ref p → One F.K F.CA G H p d → G p = none → Pk F G H v d
def PVOk (F : Fr) (G : Hp) (σ : L2.St) (v : V) : PV → Prop
  | .val d => Rep F.K F.CA G v d
  | .at i => σ[i]? = some (some v)
  | .br k => ∃ p, F.rs[k]? = some p ∧ v = .ref p
theorem PVOk.mono {v : V} {p : PV} (e : Ex G G') (h : PVOk F G σ v p) : PVOk F G' σ v p := by
  cases p with
  | val d => exact Rep.mono e h
  | «at» i => exact h
  | br k => exact h
theorem RS.look (R : RS F G H σ s) {v : V} {p : PV} {d : D} (h : PVOk F G σ v p) (e : s.look p = some d) : Pk F G H v d := by
  cases p with
  | val d' => cases e; exact .g h
  | «at» i =>
    have e : (s.slot i).bind s.data = some d := e
    cases hs : s.slot i with
    | none => rw [hs] at e; cases e
    | some x =>
      rw [hs] at e
      obtain ⟨v', e1, sl⟩ := R.slots i x (slot_env hs)
      have h' : σ[i]? = some (some v) := h
      rw [h'] at e1
      cases e1
      cases x with
      | shr d' => cases e; exact .g sl
      | own d' =>
        cases e
        obtain ⟨p, rfl, o, n, _⟩ := sl
        exact .o rfl o n
      | bor k =>
        obtain ⟨p, e2, rfl⟩ := sl
        obtain ⟨o, n⟩ := R.bors k p d e2 e
        exact .o rfl o n
  | br k =>
    obtain ⟨p, e2, rfl⟩ := h
    obtain ⟨o, n⟩ := R.bors k p d e2 e
    exact .o rfl o n
/-- a list of operands -/
def PVs (F : Fr) (G : Hp) (σ : L2.St) : List V → List PV → Prop
  | [], [] => True
  | v :: vs, p :: ps => PVOk F G σ v p ∧ PVs F G σ vs ps
  | _, _ => False
theorem PVs.mono : ∀ {vs : List V} {ps : List PV}, Ex G G' → PVs F G σ vs ps → PVs F G' σ vs ps
  | [], [], _, _ => trivial
  | v :: vs, p :: ps, e, ⟨h, t⟩ => ⟨h.mono e, PVs.mono e t⟩
  | [], _ :: _, _, h => h
  | _ :: _, [], _, h => h
def Pks (F : Fr) (G H : Hp) : List V → List D → Prop
  | [], [] => True
  | v :: vs, d :: ds => Pk F G H v d ∧ Pks F G H vs ds
  | _, _ => False
theorem RS.looks (R : RS F G H σ s) : ∀ {vs : List V} {ps : List PV} {ds : List D}, PVs F G σ vs ps → s.looks ps = some ds → Pks F G H vs ds
  | [], [], ds, _, e => by
    unfold S.looks at e; cases e; trivial
  | v :: vs, p :: ps, ds, ⟨h, t⟩, e => by
    unfold S.looks at e
    cases hd : s.look p with
    | none => rw [hd] at e; cases e
    | some d =>
      rw [hd] at e
      cases ht : s.looks ps with
      | none => rw [ht] at e; cases e
      | some ds' =>
        rw [ht] at e
        cases e
        exact ⟨R.look h hd, RS.looks R t ht⟩
  | [], _ :: _, _, h, _ => h.elim
  | _ :: _, [], _, h, _ => h.elim
/-- an operand freed from its name -/
def noAt : List PV → Bool
  | [] => true
  | .at _ :: _ => false
  | _ :: ps => noAt ps
theorem RS.fix (R : RS F G H σ s) {v : V} {p q : PV} {s' : S} (h : PVOk F G σ v p) (e : s.fix p = some (q, s')) : ∃ G', Ex G G' ∧ RS F G' H σ s' ∧ PVOk F G' σ v q ∧ noAt [q] = true := by
  cases p with
  | val d => cases e; exact ⟨G, Evl.Ex.refl _, R, h, rfl⟩
  | br k => cases e; exact ⟨G, Evl.Ex.refl _, R, h, rfl⟩
  | «at» i =>
    have h' : σ[i]? = some (some v) := h
    unfold S.fix at e
    split at e
    · rename_i h1; cases h1
    · rename_i h1; cases h1
    · rename_i j h1
      cases h1
      split at e
      · rename_i d e1
        cases e
        obtain ⟨w, e2, sl⟩ := R.slots i _ (slot_env e1)
        rw [h'] at e2
        cases e2
        exact ⟨G, Evl.Ex.refl _, R, sl, rfl⟩
      · rename_i d e1
        cases e
        obtain ⟨G', w, x1, R1, e2, r1⟩ := R.share e1
        rw [h'] at e2
        cases e2
        exact ⟨G', x1, R1, r1, rfl⟩
      · rename_i k e1
        cases e
        obtain ⟨w, e2, p, e3, rfl⟩ := R.slots i _ (slot_env e1)
        rw [h'] at e2
        cases e2
        exact ⟨G, Evl.Ex.refl _, R, ⟨p, e3, rfl⟩, rfl⟩
      · cases e
theorem noAt_cons {p : PV} {ps : List PV} (h1 : noAt [p] = true) (h2 : noAt ps = true) : noAt (p :: ps) = true := by
  cases p with
  | «at» i => cases h1
  | val d => exact h2
  | br k => exact h2
theorem RS.fixes : ∀ {vs : List V} {ps qs : List PV} {G : Hp} {s s' : S}, RS F G H σ s → PVs F G σ vs ps → s.fixes ps = some (qs, s') → ∃ G', Ex G G' ∧ RS F G' H σ s' ∧ PVs F G' σ vs qs ∧ noAt qs = true
  | [], [], qs, G, s, s', R, _, e => by
    unfold S.fixes at e
    cases e
    exact ⟨G, Evl.Ex.refl _, R, trivial, rfl⟩
  | v :: vs, p :: ps, qs, G, s, s', R, ⟨h, t⟩, e => by
    unfold S.fixes at e
    split at e
    · cases e
    · rename_i q s1 e1
      obtain ⟨G1, x1, R1, p1, n1⟩ := R.fix h e1
      split at e
      · cases e
      · rename_i qs' s2 e2
        cases e
        obtain ⟨G2, x2, R2, p2, n2⟩ := RS.fixes R1 (t.mono x1) e2
        exact ⟨G2, x1.trans x2, R2, ⟨p1.mono x2, p2⟩, noAt_cons n1 n2⟩
  | [], _ :: _, _, _, _, _, _, h, _ => h.elim
  | _ :: _, [], _, _, _, _, _, h, _ => h.elim
theorem PVs.free {σ' : L2.St} : ∀ {vs : List V} {ps : List PV}, noAt ps = true → PVs F G σ vs ps → PVs F G σ' vs ps
  | [], [], _, _ => trivial
  | v :: vs, .val d :: ps, n, ⟨h, t⟩ => ⟨h, PVs.free (ps := ps) n t⟩
  | v :: vs, .br d :: ps, n, ⟨h, t⟩ => ⟨h, PVs.free (ps := ps) n t⟩
  | _, .at _ :: _, n, _ => by cases n
  | [], _ :: _, _, h => h.elim
  | _ :: _, [], _, h => h.elim
section
variable {v : V}
theorem Pk.flat {d : D} (h : Pk F G H v d) (f : d.flat = true) : d.v = some v := by
  cases h with
  | g h => exact h.flatV f
  | o _ o _ => cases o <;> cases f
theorem Pk.int {i : Int} (h : Pk F G H v (.int i)) : v = .int i := (Option.some.inj (h.flat rfl)).symm
theorem Pk.str {i : Str} (h : Pk F G H v (.str i)) : v = .str i := (Option.some.inj (h.flat rfl)).symm
theorem Pk.bl {i : Bool} (h : Pk F G H v (.bl i)) : v = .bl i := (Option.some.inj (h.flat rfl)).symm
theorem Pk.non (h : Pk F G H v .non) : v = .non := (Option.some.inj (h.flat rfl)).symm
theorem Pk.lst {ds : List D} (e : Ex G H) (h : Pk F G H v (.lst ds)) : ∃ p vs, v = .ref p ∧ H p = some (.lst vs) ∧ Reps F.K F.CA G vs ds := by
  cases h with
  | g h =>
    cases h with
    | lst h r => exact ⟨_, _, rfl, e _ _ h, r⟩
  | o hv o _ =>
    cases o with
    | lst h r => exact ⟨_, _, hv, h, r⟩
theorem Pk.tup {ds : List D} (e : Ex G H) (h : Pk F G H v (.tup ds)) : ∃ p vs, v = .ref p ∧ SqT F.K H p vs ∧ Reps F.K F.CA G vs ds := by
  cases h with
  | g h =>
    cases h with
    | tup h r => exact ⟨_, _, rfl, Evl.ex_t e h, r⟩
  | o hv o _ => cases o
theorem Pk.frl {ds : List D} (e : Ex G H) (h : Pk F G H v (.frl ds)) : ∃ p vs, v = .ref p ∧ SqL F.K H p vs ∧ Reps F.K F.CA G vs ds := by
  cases h with
  | g h =>
    cases h with
    | frl h r => exact ⟨_, _, rfl, Evl.ex_l e h, r⟩
  | o hv o _ => cases o
theorem Pk.tupG {ds : List D} (h : Pk F G H v (.tup ds)) : Rep F.K F.CA G v (.tup ds) := by
  cases h with
  | g h => exact h
  | o hv o _ => cases o
theorem Pk.dic {ks ds : List D} (e : Ex G H) (h : Pk F G H v (.dic ks ds)) : ∃ p kvs, v = .ref p ∧ H p = some (.dK kvs) ∧ ks = kvs.map (fun p => kD p.1) ∧ Reps F.K F.CA G (kvs.map (·.2)) ds := by
  cases h with
  | g h =>
    cases h with
    | dic h r => exact ⟨_, _, rfl, e _ _ h, rfl, r⟩
  | o hv o _ =>
    cases o with
    | dic h r => exact ⟨_, _, hv, h, rfl, r⟩
theorem Pk.obj {c : Nat} {ns : List Str} {ds : List D} (e : Ex G H) (h : Pk F G H v (.obj c ns ds)) : ∃ p C dx fs, v = .ref p ∧ F.CA c = some C ∧ H p = some (.ins C dx fs) ∧ ns = fs.map (·.1) ∧ Reps F.K F.CA G (fs.map (·.2)) ds := by
  cases h with
  | g h =>
    cases h with
    | obj c h r => exact ⟨_, _, _, _, rfl, c, e _ _ h, rfl, r⟩
  | o hv o _ =>
    cases o with
    | obj c h r => exact ⟨_, _, _, _, hv, c, h, rfl, r⟩
/-- as a whole, in the whole heap -/
theorem Pk.rep {d : D} (e : Ex G H) (h : Pk F G H v d) : Rep F.K F.CA H v d := by
  cases h with
  | g h => exact h.mono e
  | o hv o _ => subst hv; exact o.rep e
theorem Pk.grow {d : D} (R : RS F G H σ s) (g : Grow G H G' H') (h : Pk F G H v d) : Pk F G' H' v d := by
  cases h with
  | g h => exact .g (h.mono g.g)
  | o hv o n =>
    obtain ⟨u, hu⟩ := o.there
    refine .o hv (o.mono g.g fun o q => g.h _ _ q) ?_
    cases e : G' _ with
    | none => rfl
    | some w =>
      rcases g.new _ (by rw [e]; exact fun z => nomatch z) with q | q
      · exact absurd n q
      · rw [hu] at q; cases q
end
end
end Den
set_option Elab.async false
set_option linter.all false
set_option maxRecDepth 100000
set_option autoImplicit false
set_option maxHeartbeats 4000000
namespace Den
open PySem PySem.Spec PyProof.Rows L2
section
variable {F : Fr} {G H G' H' : Hp} {σ : L2.St} {s s' : S}
/-- fewer claims -/
theorem RS.sub (R : RS F G H σ s) (hl : s'.env.length = s.env.length) (h : ∀ (i : Nat) (x : SV), s'.env[i]? = some (some x) → s.env[i]? = some (some x)) (hb : s'.bs = s.bs) : RS F G H σ s' where
  len := by rw [hl]; exact R.len
  bh := R.bh
  nd := R.nd
  lent := R.lent
  keep := R.keep
  bg := R.bg
  gh := R.gh
  fresh := R.fresh
  blen := by rw [hb]; exact R.blen
  bors := fun k p d e1 e2 => R.bors k p d e1 (by rw [← hb]; exact e2)
  slots := fun i x e => R.slots i x (h i x e)
  inj := fun i j x y e1 e2 => R.inj i j x y (h i x e1) (h j y e2)
theorem foldl_set_len {α : Type} (v : α) : ∀ (is : List Nat) (e : List α), (is.foldl (fun e i => e.set i v) e).length = e.length
  | [], _ => rfl
  | i :: is, e => by rw [List.foldl_cons, foldl_set_len v is]; exact List.length_set
theorem foldl_none {x : SV} {j : Nat} : ∀ {is : List Nat} {e : List (Option SV)}, (is.foldl (fun e i => e.set i none) e)[j]? = some (some x) → e[j]? = some (some x) ∧ j ∉ is
  | [], _, h => ⟨h, by simp⟩
  | i :: is, e, h => by
    obtain ⟨h1, h2⟩ := foldl_none (is := is) (e := e.set i none) h
    by_cases z : i = j
    · subst z
      by_cases hv : i < e.length
      · rw [List.getElem?_set_self hv] at h1; cases h1
      · rw [List.getElem?_eq_none (by simpa using hv)] at h1; cases h1
    · rw [List.getElem?_set_ne z] at h1
      exact ⟨h1, by simp only [List.mem_cons, not_or]; exact ⟨fun e => z e.symm, h2⟩⟩
theorem RS.wipe (R : RS F G H σ s) (w : List Nat) : RS F G H σ (s.wipe w) := R.sub (foldl_set_len none w s.env) (fun i x e => (foldl_none e).1) rfl
theorem wipeS_get {x : Option V} {i : Nat} {vs : List Nat} (h : i ∉ vs) : (L2.wipe σ vs)[i]? = σ[i]? := by
  induction vs with
  | nil => rfl
  | cons v vs ih =>
    simp only [List.mem_cons, not_or] at h
    unfold L2.wipe
    rw [List.getElem?_set_ne (Ne.symm h.1)]
    exact ih h.2
/-- into a block: its names are forgotten on both sides -/
theorem RS.blk (R : RS F G H σ s) (w : List Nat) : RS F G H (L2.wipe σ w) (s.wipe w) where
  len := by rw [L2.wipe_length]; exact (foldl_set_len none w s.env).trans R.len
  bh := R.bh
  nd := R.nd
  lent := R.lent
  keep := R.keep
  bg := R.bg
  gh := R.gh
  fresh := R.fresh
  blen := R.blen
  bors := R.bors
  slots := fun i x e => by
    obtain ⟨e1, e2⟩ := foldl_none e
    rw [wipeS_get (x := none) e2]
    exact R.slots i x e1
  inj := fun i j x y e1 e2 m1 m2 q => by
    obtain ⟨a1, a2⟩ := foldl_none e1
    obtain ⟨b1, b2⟩ := foldl_none e2
    rw [wipeS_get (x := none) a2, wipeS_get (x := none) b2] at q
    exact R.inj i j x y a1 b1 m1 m2 q
theorem foldl_res {f : Nat → Option SV} {x : SV} {j : Nat} : ∀ {is : List Nat} {e : List (Option SV)}, (is.foldl (fun e i => e.set i (f i)) e)[j]? = some (some x) → (j ∈ is ∧ f j = some x) ∨ (j ∉ is ∧ e[j]? = some (some x))
  | [], _, h => .inr ⟨by simp, h⟩
  | i :: is, e, h => by
    rcases foldl_res (is := is) (e := e.set i (f i)) h with ⟨h1, h2⟩ | ⟨h1, h2⟩
    · exact .inl ⟨List.mem_cons_of_mem _ h1, h2⟩
    · by_cases z : i = j
      · subst z
        by_cases hv : i < e.length
        · rw [List.getElem?_set_self hv] at h2
          exact .inl ⟨List.mem_cons_self, Option.some.inj h2⟩
        · rw [List.getElem?_eq_none (by simpa using hv)] at h2; cases h2
      · rw [List.getElem?_set_ne z] at h2
        exact .inr ⟨by simp only [List.mem_cons, not_or]; exact ⟨fun e => z e.symm, h1⟩, h2⟩
theorem foldl_f_len (f : Nat → Option SV) : ∀ (is : List Nat) (e : List (Option SV)), (is.foldl (fun e i => e.set i (f i)) e).length = e.length
  | [], _ => rfl
  | i :: is, e => by rw [List.foldl_cons, foldl_f_len f is]; exact List.length_set
/-- out of a block -/
theorem RS.restore {s0 : S} {G0 H0 : Hp} {w : List Nat} (R0 : RS F G0 H0 σ s0) (x0 : Ex G0 G) (R : RS F G H (L2.wipe σ w) s) : RS F G H σ (s0.restore s w) where
  len := by
    rw [show (s0.restore s w).env.length = s.env.length from foldl_f_len _ w s.env, R.len, L2.wipe_length]
  bh := R.bh
  nd := R.nd
  lent := R.lent
  keep := R.keep
  bg := R.bg
  gh := R.gh
  fresh := R.fresh
  blen := R.blen
  bors := R.bors
  slots := fun i x e => by
    rcases foldl_res e with ⟨h1, h2⟩ | ⟨h1, h2⟩
    · split at h2
      · rename_i d e2
        cases h2
        obtain ⟨v, e3, sl⟩ := R0.slots i _ e2
        exact ⟨v, e3, Rep.mono x0 sl⟩
      · cases h2
    · have := R.slots i x h2
      rw [wipeS_get (x := none) h1] at this
      exact this
  inj := fun i j x y e1 e2 m1 m2 q => by
    have aux : ∀ (i : Nat) (x : SV), (s0.restore s w).env[i]? = some (some x) → x.mutb = true → i ∉ w ∧ s.env[i]? = some (some x) := fun i x e m => by
      rcases foldl_res e with ⟨h1, h2⟩ | h
      · split at h2
        · cases h2; cases m
        · cases h2
      · exact h
    obtain ⟨a1, a2⟩ := aux i x e1 m1
    obtain ⟨b1, b2⟩ := aux j y e2 m2
    exact R.inj i j x y a2 b2 m1 m2 (by rw [wipeS_get (x := none) a1, wipeS_get (x := none) b1]; exact q)
/-- a name is given a result -/
theorem RS.put (R : RS F G H σ s) {i : Nat} {v : V} {x : SV} (h : Res F G H σ s v x) : RS F G H (σ.set i (some v)) (s.put i x) where
  len := by simp [S.put, R.len]
  bh := R.bh
  nd := R.nd
  lent := R.lent
  keep := R.keep
  bg := R.bg
  gh := R.gh
  fresh := R.fresh
  blen := R.blen
  bors := R.bors
  slots := fun j y e => by
    have e : (s.env.set i (some x))[j]? = some (some y) := e
    by_cases hj : i = j
    · subst hj
      by_cases hl : i < s.env.length
      · rw [List.getElem?_set_self hl] at e
        cases e
        exact ⟨v, List.getElem?_set_self (by rw [← R.len]; exact hl), h.1⟩
      · rw [List.getElem?_eq_none (by simpa using hl)] at e; cases e
    · rw [List.getElem?_set_ne hj] at e ⊢
      exact R.slots j y e
  inj := fun j l y z e1 e2 m1 m2 q => by
    have e1 : (s.env.set i (some x))[j]? = some (some y) := e1
    have e2 : (s.env.set i (some x))[l]? = some (some z) := e2
    by_cases hj : i = j
    · by_cases hl : i = l
      · rw [← hj, ← hl]
      · subst hj
        have hlt : i < s.env.length := by
          have := (List.getElem?_eq_some_iff.mp e1).1
          simpa using this
        rw [List.getElem?_set_self hlt] at e1
        cases e1
        rw [List.getElem?_set_ne hl] at e2 q
        rw [List.getElem?_set_self (by rw [← R.len]; exact hlt)] at q
        exact absurd q.symm (h.2.2 m1 l z e2 m2)
    · rw [List.getElem?_set_ne hj] at e1 q
      by_cases hl : i = l
      · subst hl
        have hlt : i < s.env.length := by
          have := (List.getElem?_eq_some_iff.mp e2).1
          simpa using this
        rw [List.getElem?_set_self hlt] at e2
        cases e2
        rw [List.getElem?_set_self (by rw [← R.len]; exact hlt)] at q
        exact absurd q (h.2.2 m2 j y e1 m1)
      · rw [List.getElem?_set_ne hl] at e2 q
        exact R.inj j l y z e1 e2 m1 m2 q
/-- the content of an object that may be changed is changed -/
theorem RS.store (R : RS F G H σ s) {i : Nat} {d : D} (h : s.store i d = some s') : ∃ p, σ[i]? = some (some (.ref p)) ∧ G p = none ∧ (∀ o, One F.K F.CA G (upd H p o) p d → RS F G (upd H p o) σ s') := by
  unfold S.store at h
  split at h
  · rename_i d0 e
    cases h
    have he := slot_env e
    have hlt : i < s.env.length := (List.getElem?_eq_some_iff.mp he).1
    obtain ⟨v, e1, p, rfl, o1, n, z⟩ := R.slots i _ he
    have get : ∀ (j : Nat) (x : SV), (s.put i (.own d)).env[j]? = some (some x) → (j = i ∧ x = .own d) ∨ (j ≠ i ∧ s.env[j]? = some (some x)) := fun j x e => by
      by_cases hj : j = i
      · subst hj
        have : (s.put j (.own d)).env[j]? = some (some (.own d)) := by simp [S.put, hlt]
        rw [this] at e
        cases e
        exact .inl ⟨rfl, rfl⟩
      · have : (s.put i (.own d)).env[j]? = s.env[j]? := by simp [S.put, List.getElem?_set_ne (Ne.symm hj)]
        rw [this] at e
        exact .inr ⟨hj, e⟩
    refine ⟨p, e1, n, fun o ho => ⟨by simp [S.put, R.len], R.bh, R.nd, R.lent, fun a u m e => ?_, R.bg, Ex.upd_free R.gh n, R.fresh, R.blen, fun k p' d' q1 q2 => ?_, fun j x e => ?_, fun j l x y q1 q2 m1 m2 q3 => ?_⟩⟩
    · have hne : a ≠ p := fun w => by subst w; rw [z] at e; cases e
      rw [upd_ne hne]
      exact R.keep a u m e
    · obtain ⟨o', n'⟩ := R.bors k p' d' q1 q2
      have hne : p' ≠ p := fun w => by
        subst w
        obtain ⟨u', hu'⟩ := R.lent p' (List.mem_of_getElem? q1)
        rw [z] at hu'; cases hu'
      exact ⟨o'.mono (Evl.Ex.refl _) fun _ q => by rw [upd_ne hne]; exact q, n'⟩
    · rcases get j x e with ⟨rfl, rfl⟩ | ⟨hj, e⟩
      · exact ⟨_, e1, p, rfl, ho, n, z⟩
      · obtain ⟨v, e2, sl⟩ := R.slots j x e
        refine ⟨v, e2, ?_⟩
        cases x with
        | shr d => exact sl
        | bor k => exact sl
        | own d' =>
          obtain ⟨p', rfl, o', n', z'⟩ := sl
          have hne : p' ≠ p := fun w => by
            subst w
            exact hj (R.inj j i _ _ e he rfl rfl (by rw [e2, e1]))
          exact ⟨p', rfl, o'.mono (Evl.Ex.refl _) fun _ q => by rw [upd_ne hne]; exact q, n', z'⟩
    · have g2 : ∀ (j : Nat) (x : SV), (s.put i (.own d)).env[j]? = some (some x) → x.mutb = true → ∃ y, s.env[j]? = some (some y) ∧ y.mutb = true := fun j x e m => by
        rcases get j x e with ⟨rfl, rfl⟩ | ⟨_, e⟩
        · exact ⟨_, he, rfl⟩
        · exact ⟨_, e, m⟩
      obtain ⟨x', a1, a2⟩ := g2 j x q1 m1
      obtain ⟨y', b1, b2⟩ := g2 l y q2 m2
      exact R.inj j l x' y' a1 b1 a2 b2 q3
  · rename_i k e
    cases h
    have he := slot_env e
    obtain ⟨v, e1, p, hp, rfl⟩ := R.slots i _ he
    have hk : k < s.bs.length := by rw [R.blen]; exact (List.getElem?_eq_some_iff.mp hp).1
    obtain ⟨o1, n⟩ := R.bors k p s.bs[k] hp (List.getElem?_eq_getElem hk)
    refine ⟨p, e1, n, fun o ho => ⟨R.len, R.bh, R.nd, R.lent, fun a u m e => ?_, R.bg, Ex.upd_free R.gh n, R.fresh, by simp [R.blen], fun k' p' d' q1 q2 => ?_, fun j x e => ?_, R.inj⟩⟩
    · have hne : a ≠ p := fun w => by subst w; exact m (List.mem_of_getElem? hp)
      rw [upd_ne hne]
      exact R.keep a u m e
    · by_cases hk' : k = k'
      · subst hk'
        rw [hp] at q1
        cases q1
        have q2 : (s.bs.set k d)[k]? = some d' := q2
        rw [List.getElem?_set_self hk] at q2
        cases q2
        exact ⟨ho, n⟩
      · have q2 : (s.bs.set k d)[k']? = some d' := q2
        rw [List.getElem?_set_ne hk'] at q2
        obtain ⟨o', n'⟩ := R.bors k' p' d' q1 q2
        have hne : p' ≠ p := fun w => by
          subst w
          exact hk' ((List.getElem?_inj (List.getElem?_eq_some_iff.mp hp).1 R.nd).mp (hp.trans q1.symm))
        exact ⟨o'.mono (Evl.Ex.refl _) fun _ q => by rw [upd_ne hne]; exact q, n'⟩
    · obtain ⟨v, e2, sl⟩ := R.slots j x e
      refine ⟨v, e2, ?_⟩
      cases x with
      | shr d => exact sl
      | bor k => exact sl
      | own d' =>
        obtain ⟨p', rfl, o', n', z'⟩ := sl
        have hne : p' ≠ p := fun w => by
          subst w
          obtain ⟨u', hu'⟩ := R.lent p' (List.mem_of_getElem? hp)
          rw [z'] at hu'; cases hu'
        exact ⟨p', rfl, o'.mono (Evl.Ex.refl _) fun _ q => by rw [upd_ne hne]; exact q, n', z'⟩
  · cases h
/-! ### what expressions, tests, statements mean -/
inductive ExcOk (F : Fr) (G H : Hp) (c : Nat) (p : List (Str × D)) : Value → Option Addr → Prop
  | non {C : Addr} : F.CA c = some C → p = [] → ExcOk F G H c p (.ref C) none
  | dict {C dx : Addr} {fs : List (Str × V)} : F.CA c = some C → G dx = some (.xd fs) → fs.map (·.1) = p.map (·.1) → Reps F.K F.CA G (fs.map (·.2)) (p.map (·.2)) → p ≠ [] → ExcOk F G H c p (.ref C) (some dx)
end
/-- the wish of exceptions -/
def exW (F : Fr) (G : Hp) (σ : L2.St) (W : WX) (c : Nat) (p : List (Str × D)) (s : S) : Prop :=
  ∀ G' H' cls d, Ex G G' → RS F G' H' σ s → ExcOk F G' H' c p cls d → W cls d σ H'
def PostE (F : Fr) (G : Hp) (σ : L2.St) (W : WX) (Q : VK) : Out SV → Prop
  | .ok x s => ∀ v G' H', Ex G G' → RS F G' H' σ s → Res F G' H' σ s v x → Q v H'
  | .ex c p s => exW F G σ W c p s
  | .bad => False
def PostP (F : Fr) (G : Hp) (σ : L2.St) (W : WX) (Q : VK) : Out PV → Prop
  | .ok x s => ∀ v G' H', Ex G G' → RS F G' H' σ s → PVOk F G' σ v x → Q v H'
  | .ex c p s => exW F G σ W c p s
  | .bad => False
def PostPs (F : Fr) (G : Hp) (σ : L2.St) (W : WX) (Q : List V → Hp → Prop) : Out (List PV) → Prop
  | .ok x s => ∀ vs G' H', Ex G G' → RS F G' H' σ s → PVs F G' σ vs x → Q vs H'
  | .ex c p s => exW F G σ W c p s
  | .bad => False
def PostMs (F : Fr) (G : Hp) (σ : L2.St) (W : WX) (Q : List V → Hp → Prop) : Out (List D) → Prop
  | .ok x s => ∀ vs G' H', Ex G G' → RS F G' H' σ s → Reps F.K F.CA G' vs x → Q vs H'
  | .ex c p s => exW F G σ W c p s
  | .bad => False
def PostT (F : Fr) (G : Hp) (σ : L2.St) (W : WX) (Q : Bool → Hp → Prop) : Out Bool → Prop
  | .ok x s => ∀ G' H', Ex G G' → RS F G' H' σ s → Q x H'
  | .ex c p s => exW F G σ W c p s
  | .bad => False
section
variable (K : PySem.W.Frag) (CA : Nat → Option Addr) (W : WX)
def denE (m : S → Out SV) : TE := fun σ H Q => ∃ F G s, F.K = K ∧ F.CA = CA ∧ RS F G H σ s ∧ PostE F G σ W Q (m s)
def denP (m : S → Out PV) : TE := fun σ H Q => ∃ F G s, F.K = K ∧ F.CA = CA ∧ RS F G H σ s ∧ PostP F G σ W Q (m s)
def denPs (m : S → Out (List PV)) : TA := fun σ H Q => ∃ F G s, F.K = K ∧ F.CA = CA ∧ RS F G H σ s ∧ PostPs F G σ W Q (m s)
def denMs (m : S → Out (List D)) : TA := fun σ H Q => ∃ F G s, F.K = K ∧ F.CA = CA ∧ RS F G H σ s ∧ PostMs F G σ W Q (m s)
def denT (m : S → Out Bool) : TT := fun σ H Q => ∃ F G s, F.K = K ∧ F.CA = CA ∧ RS F G H σ s ∧ PostT F G σ W Q (m s)
/-- a statement's end -/
def PostS (F : Fr) (G0 : Hp) (D : Ends) : O → Prop
  | .nx s => ∀ σ G H, Ex G0 G → RS F G H σ s → D.nx σ H
  | .rt x s => ∀ v σ G H, Ex G0 G → RS F G H σ s → Res F G H σ s v x → D.rt v H
  | .bk s => ∀ σ G H, Ex G0 G → RS F G H σ s → D.bk σ H
  | .ct s => ∀ σ G H, Ex G0 G → RS F G H σ s → D.ct σ H
  | .ex c p s => ∀ σ G H cls d, Ex G0 G → RS F G H σ s → ExcOk F G H c p cls d → W cls d σ H
  | .bad => False
def denS (m : S → O) : TS := fun D σ H => ∃ F G s, F.K = K ∧ F.CA = CA ∧ RS F G H σ s ∧ PostS W F G D (m s)
end
theorem _root_.L2.PE.imp {X : Cx} {e : Expr} {t t' : TE} (h : PE X e t) (i : ∀ σ H Q, t' σ H Q → t σ H Q) : PE X e t' := ⟨fun pins s σ H Q I q => h.run pins s σ H Q I (i σ H Q q)⟩
theorem _root_.L2.PT.imp {X : Cx} {e : Expr} {t t' : TT} (h : PT X e t) (i : ∀ σ H Q, t' σ H Q → t σ H Q) : PT X e t' := ⟨fun pins s σ H Q I q => h.run pins s σ H Q I (i σ H Q q)⟩
theorem _root_.L2.PW.imp {X : Cx} {e : Expr} {t t' : TT} (h : PW X e t) (i : ∀ σ H Q, t' σ H Q → t σ H Q) : PW X e t' := ⟨fun w pins s σ H Q I q => h.run w pins s σ H Q I (i σ H Q q)⟩
theorem _root_.L2.PA.imp {X : Cx} {es : List Expr} {t t' : TA} (h : PA X es t) (i : ∀ σ H Q, t' σ H Q → t σ H Q) : PA X es t' := ⟨fun p pins s σ H Q I q => h.run p pins s σ H Q I (i σ H Q q)⟩
theorem _root_.L2.PS.imp {X : Cx} {e : Stmt} {t t' : TS} (h : PS X e t) (i : ∀ D σ H, t' D σ H → t D σ H) : PS X e t' := ⟨fun pins s σ H D I q => h.run pins s σ H D I (i D σ H q)⟩
theorem _root_.L2.PSs.imp {X : Cx} {e : List Stmt} {t t' : TS} (h : PSs X e t) (i : ∀ D σ H, t' D σ H → t D σ H) : PSs X e t' := ⟨fun pins s σ H D I q => h.run pins s σ H D I (i D σ H q)⟩
/-- chaining -/
theorem PostE.bind {F : Fr} {G : Hp} {σ : L2.St} {W : WX} {Q Q' : VK} {m : Out SV} {α : Type} (f : SV → S → Out α) (P : Out α → Prop) (h : P (m.bind f)) (hx : ∀ c p s, P (.ex c p s) → exW F G σ W c p s) (hb : ¬ P .bad)
    (k : ∀ x s, P (f x s) → ∀ v G' H', Ex G G' → RS F G' H' σ s → Res F G' H' σ s v x → Q v H') : PostE F G σ W Q m := by
  cases m with
  | ok x s => exact k x s h
  | ex c p s => exact hx c p s h
  | bad => exact absurd h hb
theorem PostP.bind {F : Fr} {G : Hp} {σ : L2.St} {W : WX} {Q : VK} {m : Out PV} {α : Type} (f : PV → S → Out α) (P : Out α → Prop) (h : P (m.bind f)) (hx : ∀ c p s, P (.ex c p s) → exW F G σ W c p s) (hb : ¬ P .bad)
    (k : ∀ x s, P (f x s) → ∀ v G' H', Ex G G' → RS F G' H' σ s → PVOk F G' σ v x → Q v H') : PostP F G σ W Q m := by
  cases m with
  | ok x s => exact k x s h
  | ex c p s => exact hx c p s h
  | bad => exact absurd h hb
theorem PostPs.bind {F : Fr} {G : Hp} {σ : L2.St} {W : WX} {Q : List V → Hp → Prop} {m : Out (List PV)} {α : Type} (f : List PV → S → Out α) (P : Out α → Prop) (h : P (m.bind f)) (hx : ∀ c p s, P (.ex c p s) → exW F G σ W c p s) (hb : ¬ P .bad)
    (k : ∀ x s, P (f x s) → ∀ v G' H', Ex G G' → RS F G' H' σ s → PVs F G' σ v x → Q v H') : PostPs F G σ W Q m := by
  cases m with
  | ok x s => exact k x s h
  | ex c p s => exact hx c p s h
  | bad => exact absurd h hb
theorem PostMs.bind {F : Fr} {G : Hp} {σ : L2.St} {W : WX} {Q : List V → Hp → Prop} {m : Out (List D)} {α : Type} (f : List D → S → Out α) (P : Out α → Prop) (h : P (m.bind f)) (hx : ∀ c p s, P (.ex c p s) → exW F G σ W c p s) (hb : ¬ P .bad)
    (k : ∀ x s, P (f x s) → ∀ v G' H', Ex G G' → RS F G' H' σ s → Reps F.K F.CA G' v x → Q v H') : PostMs F G σ W Q m := by
  cases m with
  | ok x s => exact k x s h
  | ex c p s => exact hx c p s h
  | bad => exact absurd h hb
theorem PostT.bind {F : Fr} {G : Hp} {σ : L2.St} {W : WX} {Q : Bool → Hp → Prop} {m : Out Bool} {α : Type} (f : Bool → S → Out α) (P : Out α → Prop) (h : P (m.bind f)) (hx : ∀ c p s, P (.ex c p s) → exW F G σ W c p s) (hb : ¬ P .bad)
    (k : ∀ x s, P (f x s) → ∀ G' H', Ex G G' → RS F G' H' σ s → Q x H') : PostT F G σ W Q m := by
  cases m with
  | ok x s => exact k x s h
  | ex c p s => exact hx c p s h
  | bad => exact absurd h hb
theorem exW.mono {F : Fr} {G G' : Hp} {σ : L2.St} {W : WX} {c : Nat} {p : List (Str × D)} {s : S} (e : Ex G G') (h : exW F G σ W c p s) : exW F G' σ W c p s := fun G2 H2 cls d x R k => h G2 H2 cls d (e.trans x) R k
theorem PostE.mono {F : Fr} {G G' : Hp} {σ : L2.St} {W : WX} {Q : VK} {m : Out SV} (e : Ex G G') (h : PostE F G σ W Q m) : PostE F G' σ W Q m := by
  cases m with
  | ok x s => exact fun v G2 H2 a => h v G2 H2 (e.trans a)
  | ex c p s => exact exW.mono e h
  | bad => exact h
theorem PostP.mono {F : Fr} {G G' : Hp} {σ : L2.St} {W : WX} {Q : VK} {m : Out PV} (e : Ex G G') (h : PostP F G σ W Q m) : PostP F G' σ W Q m := by
  cases m with
  | ok x s => exact fun v G2 H2 a => h v G2 H2 (e.trans a)
  | ex c p s => exact exW.mono e h
  | bad => exact h
theorem PostPs.mono {F : Fr} {G G' : Hp} {σ : L2.St} {W : WX} {Q : List V → Hp → Prop} {m : Out (List PV)} (e : Ex G G') (h : PostPs F G σ W Q m) : PostPs F G' σ W Q m := by
  cases m with
  | ok x s => exact fun v G2 H2 a => h v G2 H2 (e.trans a)
  | ex c p s => exact exW.mono e h
  | bad => exact h
theorem PostMs.mono {F : Fr} {G G' : Hp} {σ : L2.St} {W : WX} {Q : List V → Hp → Prop} {m : Out (List D)} (e : Ex G G') (h : PostMs F G σ W Q m) : PostMs F G' σ W Q m := by
  cases m with
  | ok x s => exact fun v G2 H2 a => h v G2 H2 (e.trans a)
  | ex c p s => exact exW.mono e h
  | bad => exact h
theorem PostT.mono {F : Fr} {G G' : Hp} {σ : L2.St} {W : WX} {Q : Bool → Hp → Prop} {m : Out Bool} (e : Ex G G') (h : PostT F G σ W Q m) : PostT F G' σ W Q m := by
  cases m with
  | ok x s => exact fun G2 H2 a => h G2 H2 (e.trans a)
  | ex c p s => exact exW.mono e h
  | bad => exact h
end Den
set_option Elab.async false
set_option linter.all false
set_option maxRecDepth 100000
set_option autoImplicit false
set_option maxHeartbeats 4000000
namespace Den
open PySem PySem.Spec PyProof.Rows L2
/-- an operation on values -/
def rOp (K : PySem.W.Frag) (CA : Nat → Option Addr) (o : Op) : List V → Hp → VK → Prop := fun vs H Q => ∃ F G σ s ds x, F.K = K ∧ F.CA = CA ∧ RS F G H σ s ∧ Pks F G H vs ds ∧ opSem o ds = some x ∧
  ∀ v G' H', Grow G H G' H' → Res F G' H' σ s v x → Q v H'
section
variable {F : Fr} {G H G' H' : Hp} {σ : L2.St} {s s' : S} {Q : VK} {v : V} {x : SV}
theorem fin0 (R : RS F G H σ s) {d : D} (q : ∀ v G' H', Grow G H G' H' → Res F G' H' σ s v (.shr d) → Q v H') (h : Rep F.K F.CA G v d) : Q v H := q v G H (Grow.refl R.gh) (Res.shr h)
theorem finL (R : RS F G H σ s) {ds : List D} {vs : List V} (q : ∀ v G' H', Grow G H G' H' → Res F G' H' σ s v (.own (.lst ds)) → Q v H') (h : Reps F.K F.CA G vs ds) : ∀ p, H p = none → Q (.ref p) (upd H p (.lst vs)) := fun p hp =>
  q _ G _ (Grow.newH R.gh hp) (Res.own R hp (.lst upd_same h))
theorem finT (R : RS F G H σ s) {ds : List D} {vs : List V} (q : ∀ v G' H', Grow G H G' H' → Res F G' H' σ s v (.shr (.tup ds)) → Q v H') (h : Reps F.K F.CA G vs ds) : ∀ p, H p = none → Q (.ref p) (upd H p (.tup vs)) := fun p hp =>
  q _ _ _ (Grow.newG R.gh hp) (Res.shr (.tup (Evl.st_of upd_same) (h.mono (Evl.Ex.new (gnone R.gh hp)))))
theorem Pks.one {d : D} : Pks F G H [v] [d] ↔ Pk F G H v d := ⟨fun h => h.1, fun h => ⟨h, trivial⟩⟩
theorem Pks.inv1 {ds : List D} (h : Pks F G H [v] ds) : ∃ d, ds = [d] ∧ Pk F G H v d := by
  match ds, h with
  | [d], ⟨a, _⟩ => exact ⟨d, rfl, a⟩
  | [], h => exact h.elim
  | _ :: _ :: _, ⟨_, h⟩ => exact h.elim
theorem Pks.inv2 {w : V} {ds : List D} (h : Pks F G H [v, w] ds) : ∃ d e, ds = [d, e] ∧ Pk F G H v d ∧ Pk F G H w e := by
  match ds, h with
  | [d, e], ⟨a, b, _⟩ => exact ⟨d, e, rfl, a, b⟩
  | [], h => exact h.elim
  | [_], ⟨_, h⟩ => exact h.elim
  | _ :: _ :: _ :: _, ⟨_, _, h⟩ => exact h.elim
theorem mulG_ok {i j : Int} (h : mulG i j = true) : CMul i j := by
  unfold mulG at h
  have := of_decide_eq_true h
  exact this
theorem divG_ok {j : Int} {i : Int} (h : divG j = true) : CDiv i j := by
  unfold divG at h
  have := of_decide_eq_true h
  exact this
theorem two_of {α : Type} {l : List α} (h : l.length = 2) : ∃ a b, l = [a, b] := by
  match l, h with
  | [a, b], _ => exact ⟨a, b, rfl⟩
theorem sz {n : Nat} (h : n ≤ lim) : n ≤ sizeLine := Nat.le_trans h (by decide)
theorem szl {n : Nat} (h : n < lim) : n < sizeLine := Nat.lt_of_lt_of_le h (by decide)
/-- data as the library has it -/
theorem Rep.dp {K : PySem.W.Frag} {CA : Nat → Option Addr} {H : Hp} {v : V} {d : D} (h : Rep K CA H v d) : PyData.canLay0 d.py = true → Dp K H v d.py := by
  induction h using Rep.rec (motive_2 := fun vs ds _ => PyData.canLayAll0 (D.pys ds) = true → DpAll K H vs (D.pys ds)) with
  | non => intro _; exact .non
  | bl b => intro _; exact .bl b
  | int i => intro _; exact .int i
  | str x => intro _; exact .str x
  | lst h _ r => intro c; exact .lst (SqL.of h) (r (by simpa [D.py, PyData.canLay0] using c))
  | tup h _ r => intro c; exact .tup h (r (by simpa [D.py, PyData.canLay0] using c))
  | dic h _ r => intro c; simp [D.py, PyData.canLay0] at c
  | frl h _ r => intro c; simp [D.py, PyData.canLay0] at c
  | obj c h _ r => intro c; simp [D.py, PyData.canLay0] at c
  | nil => exact .nil
  | cons _ _ r1 r2 =>
    rename_i c
    unfold D.pys at c ⊢
    simp only [PyData.canLayAll0, Bool.and_eq_true] at c
    exact .cons (r1 c.1) (r2 c.2)
theorem Pk.dp {d : D} (R : RS F G H σ s) (h : Pk F G H v d) (c : d.okq = true) : Dp F.K H v d.py := (h.rep R.gh).dp (SeqAt.canLay_of_shaped c)
theorem cutG_V (xs : List V) (lo hi : Option Int) : cutG xs lo hi = cutV xs lo hi := rfl
theorem Reps.cut {K : PySem.W.Frag} {CA : Nat → Option Addr} {vs : List V} {ds : List D} (h : Reps K CA H vs ds) (lo hi : Option Int) : Reps K CA H (cutV vs lo hi) (cutG ds lo hi) := by
  unfold cutV cutG
  rw [h.length]
  exact (h.drop _).take _
theorem Reps.atI {K : PySem.W.Frag} {CA : Nat → Option Addr} {vs : List V} {ds : List D} {i : Int} {d : D} (h : Reps K CA H vs ds) (e : ixI ds i = some d) : ∃ v, atI vs i = some v ∧ Rep K CA H v d := by
  unfold ixI L2.atI at e
  unfold L2.atI
  rw [h.length]
  cases q : ixN ds.length i with
  | none => rw [q] at e; cases e
  | some j =>
    rw [q] at e
    exact h.get e
theorem Reps.ints {K : PySem.W.Frag} {CA : Nat → Option Addr} : ∀ {vs : List V} {ds : List D} {is : List Int}, Reps K CA H vs ds → D.ints ds = some is → vs = is.map V.int
  | _, _, _, .nil, e => by cases e; rfl
  | _, _, is, .cons (d := d) (ds := ds) r t, e => by
    cases r with
    | int i =>
      unfold D.ints at e
      cases q : D.ints ds with
      | none => rw [q] at e; cases e
      | some js =>
        rw [q] at e
        cases e
        rw [Reps.ints t q]
        rfl
    | _ => cases e
theorem Reps.ofInts {K : PySem.W.Frag} {CA : Nat → Option Addr} : ∀ is : List Int, Reps K CA H (is.map V.int) (is.map D.int)
  | [] => .nil
  | i :: is => .cons (.int i) (Reps.ofInts is)
theorem Reps.bls {K : PySem.W.Frag} {CA : Nat → Option Addr} : ∀ {vs : List V} {ds : List D} {is : List Bool}, Reps K CA H vs ds → D.bls ds = some is → vs = is.map V.bl
  | _, _, _, .nil, e => by cases e; rfl
  | _, _, is, .cons (d := d) (ds := ds) r t, e => by
    cases r with
    | bl i =>
      unfold D.bls at e
      cases q : D.bls ds with
      | none => rw [q] at e; cases e
      | some js =>
        rw [q] at e
        cases e
        rw [Reps.bls t q]
        rfl
    | _ => cases e
/-- flat data and flat values -/
theorem eqv_flat {d e : D} {x y : V} (hd : d.v = some x) (he : e.v = some y) : D.eqv d e = eqV x y := by
  cases d <;> cases hd <;> cases e <;> cases he <;> rfl
theorem Reps.flats {K : PySem.W.Frag} {CA : Nat → Option Addr} {G : Hp} : ∀ {vs : List V} {ds : List D}, Reps K CA G vs ds → ds.all D.flat = true → vs.all flatV = true
  | _, _, .nil, _ => rfl
  | _, _, .cons r t, f => by
    rw [List.all_cons, Bool.and_eq_true] at f
    rw [List.all_cons, Bool.and_eq_true]
    refine ⟨?_, Reps.flats t f.2⟩
    have := r.flatV f.1
    cases r <;> first | rfl | (exact Bool.noConfusion f.1)
theorem Reps.any_eqV {K : PySem.W.Frag} {CA : Nat → Option Addr} {G : Hp} {d : D} {x : V} (hd : d.v = some x) : ∀ {vs : List V} {ds : List D}, Reps K CA G vs ds → ds.all D.flat = true → (ds.any fun y => D.eqv y d) = inV x vs
  | _, _, .nil, _ => rfl
  | _, _, .cons r t, f => by
    rw [List.all_cons, Bool.and_eq_true] at f
    have e := Reps.any_eqV hd t f.2
    unfold inV at e ⊢
    rw [List.any_cons, List.any_cons, e, eqv_flat (r.flatV f.1) hd]
theorem flat_V {d : D} {x : V} (h : d.v = some x) : L2.flatV x = true := by cases d <;> cases h <;> rfl
theorem v_inj {d e : D} {x : V} (h : d.v = some x) (h' : e.v = some x) : d = e := by
  cases d <;> cases h <;> cases e <;> cases h' <;> rfl
theorem Pks.len {vs : List V} {ds : List D} (h : Pks F G H vs ds) : vs.length = ds.length := by
  induction vs generalizing ds with
  | nil => cases ds with
    | nil => rfl
    | cons _ _ => exact h.elim
  | cons v vs ih => cases ds with
    | nil => exact h.elim
    | cons d ds => simp [ih h.2]
end
section
variable {X : Cx} {CA : Nat → Option Addr}
theorem o_add : OpR X (binaryOp .Add) (fun x y => rOp X.K CA .add [x, y]) := by
  intro pins s σ H x y v u Q I rx ry ⟨F, G, σ', s', ds, r, hK, hC, R, hp, e, q⟩
  subst hC
  obtain ⟨d, d', rfl, p1, p2⟩ := hp.inv2
  replace e : addS d d' = some r := e
  unfold addS at e
  split at e
  · cases e
    exact op_add pins s σ H x y v u Q I rx ry ⟨_, _, p1.int, p2.int, fin0 R q (.int _)⟩
  · split at e <;> cases e
    rename_i hz
    exact op_add_str pins s σ H x y v u Q I rx ry ⟨_, _, p1.str, p2.str, sz hz, fin0 R q (.str _)⟩
  · split at e <;> cases e
    rename_i hz
    obtain ⟨a, vs, rfl, h1, r1⟩ := p1.lst R.gh
    obtain ⟨b, ws, rfl, h2, r2⟩ := p2.lst R.gh
    exact op_cat pins s σ H _ _ v u Q I rx ry ⟨a, b, vs, ws, rfl, rfl, h1, h2, by rw [r1.length, r2.length]; exact sz hz, finL R q (r1.append r2)⟩
  · split at e <;> cases e
    rename_i hz
    obtain ⟨a, vs, rfl, h1, r1⟩ := p1.tup R.gh
    obtain ⟨b, ws, rfl, h2, r2⟩ := p2.tup R.gh
    rw [hK] at h1 h2
    refine op_catA pins s σ H _ _ v u Q I rx ry ⟨a, b, vs, ws, rfl, rfl, h1, h2, by rw [r1.length, r2.length]; exact sz hz, fun e => ?_, fun _ e => ?_, fun _ _ => finT R q (r1.append r2)⟩
    · subst e
      cases r1
      exact fin0 R q (by simpa using p2.tupG)
    · subst e
      cases r2
      exact fin0 R q (by simpa using p1.tupG)
  · cases e
theorem o_sub : OpR X (binaryOp .Sub) (fun x y => rOp X.K CA .sub [x, y]) := by
  intro pins s σ H x y v u Q I rx ry ⟨F, G, σ', s', ds, r, hK, hC, R, hp, e, q⟩
  obtain ⟨d, d', rfl, p1, p2⟩ := hp.inv2
  cases d <;> first | (cases e; done) | skip
  cases d' <;> first | (cases e; done) | skip
  cases e
  exact op_sub pins s σ H x y v u Q I rx ry ⟨_, _, p1.int, p2.int, fin0 R q (.int _)⟩
theorem o_mul : OpR X (binaryOp .Mult) (fun x y => rOp X.K CA .mul [x, y]) := by
  intro pins s σ H x y v u Q I rx ry ⟨F, G, σ', s', ds, r, hK, hC, R, hp, e, q⟩
  obtain ⟨d, d', rfl, p1, p2⟩ := hp.inv2
  replace e : mulS d d' = some r := e
  unfold mulS at e
  split at e
  · split at e <;> cases e
    rename_i hg
    exact op_mul pins s σ H x y v u Q I rx ry ⟨_, _, p1.int, p2.int, (mulG_ok hg), fin0 R q (.int _)⟩
  · split at e <;> cases e
    rename_i hg
    exact My.op_mul_str pins s σ H x y v u Q I rx ry ⟨_, _, p1.str, p2.int, hg.1, hg.2.1, hg.2.2, fin0 R q (.str _)⟩
  · cases e
theorem o_fdiv : OpR X (binaryOp .FloorDiv) (fun x y => rOp X.K CA .fdiv [x, y]) := by
  intro pins s σ H x y v u Q I rx ry ⟨F, G, σ', s', ds, r, hK, hC, R, hp, e, q⟩
  obtain ⟨d, d', rfl, p1, p2⟩ := hp.inv2
  cases d <;> first | (cases e; done) | skip
  cases d' <;> first | (cases e; done) | skip
  rename_i i j
  replace e : (if divG j = true then some (SV.shr (.int (i / j))) else none) = some r := e
  split at e <;> cases e
  rename_i hg
  exact op_fdiv pins s σ H x y v u Q I rx ry ⟨_, _, p1.int, p2.int, (divG_ok hg), fin0 R q (.int _)⟩
theorem o_mod : OpR X (binaryOp .Mod) (fun x y => rOp X.K CA .mod [x, y]) := by
  intro pins s σ H x y v u Q I rx ry ⟨F, G, σ', s', ds, r, hK, hC, R, hp, e, q⟩
  obtain ⟨d, d', rfl, p1, p2⟩ := hp.inv2
  cases d <;> first | (cases e; done) | skip
  cases d' <;> first | (cases e; done) | skip
  rename_i i j
  replace e : (if 0 < j then some (SV.shr (.int (i % j))) else none) = some r := e
  split at e <;> cases e
  rename_i hg
  exact op_mod pins s σ H x y v u Q I rx ry ⟨_, _, p1.int, p2.int, hg, fin0 R q (.int _)⟩
theorem o_pow : OpR X (binaryOp .Pow) (fun x y => rOp X.K CA .pow [x, y]) := by
  intro pins s σ H x y v u Q I rx ry ⟨F, G, σ', s', ds, r, hK, hC, R, hp, e, q⟩
  obtain ⟨d, d', rfl, p1, p2⟩ := hp.inv2
  cases d <;> first | (cases e; done) | skip
  cases d' <;> first | (cases e; done) | skip
  rename_i i j
  replace e : (if 0 ≤ j ∧ j ≤ 1000 ∧ i.natAbs < 2 ^ 64 then some (SV.shr (.int (i ^ j.toNat))) else none) = some r := e
  split at e <;> cases e
  rename_i hg
  exact op_pow pins s σ H x y v u Q I rx ry ⟨_, _, p1.int, p2.int, ⟨hg.1, by have := hg.2.1; omega, hg.2.2⟩, fin0 R q (.int _)⟩
theorem o_band : OpR X (binaryOp .BitAnd) (fun x y => rOp X.K CA .band [x, y]) := by
  intro pins s σ H x y v u Q I rx ry ⟨F, G, σ', s', ds, r, hK, hC, R, hp, e, q⟩
  obtain ⟨d, d', rfl, p1, p2⟩ := hp.inv2
  cases d <;> first | (cases e; done) | skip
  cases d' <;> first | (cases e; done) | skip
  cases e
  exact op_and pins s σ H x y v u Q I rx ry ⟨_, _, p1.int, p2.int, fin0 R q (.int _)⟩
theorem o_shr : OpR X (binaryOp .RShift) (fun x y => rOp X.K CA .shr [x, y]) := by
  intro pins s σ H x y v u Q I rx ry ⟨F, G, σ', s', ds, r, hK, hC, R, hp, e, q⟩
  obtain ⟨d, d', rfl, p1, p2⟩ := hp.inv2
  cases d <;> first | (cases e; done) | skip
  cases d' <;> first | (cases e; done) | skip
  rename_i i j
  replace e : (if 0 ≤ j then some (SV.shr (.int (i / 2 ^ j.toNat))) else none) = some r := e
  split at e <;> cases e
  rename_i hg
  exact op_shr pins s σ H x y v u Q I rx ry ⟨_, _, p1.int, p2.int, hg, fin0 R q (.int _)⟩
theorem o_neg : UnR X (unaryOp .USub) (fun x => rOp X.K CA .neg [x]) := by
  intro pins s σ H x v Q I rx ⟨F, G, σ', s', ds, r, hK, hC, R, hp, e, q⟩
  obtain ⟨d, rfl, p1⟩ := hp.inv1
  cases d <;> first | (cases e; done) | skip
  cases e
  exact un_neg pins s σ H x v Q I rx ⟨_, p1.int, fin0 R q (.int _)⟩
theorem rep_bl {F : Fr} {G : Hp} (b : Bool) : Rep F.K F.CA G (.bl b) (.bl b) := .bl b
theorem scal_V {d e : D} {x y : V} (hs : D.scal d e = true) (hd : Rep (default : PySem.W.Frag) (fun _ => none) (fun _ => none) x d → True) : True := trivial
theorem Pk.scal {F : Fr} {G H : Hp} {v w : V} {d e : D} (h1 : Pk F G H v d) (h2 : Pk F G H w e) (hs : D.scal d e = true) : L2.scal v w = true ∧ decide (v = w) = decide (d = e) := by
  unfold D.scal at hs
  split at hs
  · rename_i x y hx hy
    have f1 : d.flat = true := by cases d <;> first | rfl | cases hx
    have f2 : e.flat = true := by cases e <;> first | rfl | cases hy
    have a1 := h1.flat f1
    have a2 := h2.flat f2
    rw [hx] at a1
    rw [hy] at a2
    cases a1
    cases a2
    refine ⟨hs, decide_eq_decide.mpr ⟨fun z => ?_, fun z => ?_⟩⟩
    · subst z; exact v_inj hx hy
    · subst z; rw [hx] at hy; exact Option.some.inj hy
  · cases hs
theorem o_eq (hu : X.A.units + 64 < cLine) : OpR X (compareOp .Eq) (fun x y => rOp X.K CA .eq [x, y]) := by
  intro pins s σ H x y v u Q I rx ry ⟨F, G, σ', s', ds, r, hK, hC, R, hp, e, q⟩
  obtain ⟨d, d', rfl, p1, p2⟩ := hp.inv2
  replace e : blO (D.eqq d d') = some r := e
  unfold D.eqq at e
  split at e
  · rename_i hs
    cases e
    obtain ⟨a, b⟩ := p1.scal p2 hs
    exact op_eq pins s σ H x y v u Q I rx ry ⟨a, by rw [b]; exact fin0 R q (.bl _)⟩
  · split at e <;> cases e
    rename_i hk
    rw [Bool.and_eq_true] at hk
    have a := p1.dp R hk.1
    have b := p2.dp R hk.2
    rw [hK] at a b
    exact op_eqD hu pins s σ H x y v u Q I rx ry ⟨_, _, a, b, hk.1, hk.2, fin0 R q (.bl _)⟩
theorem o_ne (hu : X.A.units + 64 < cLine) : OpR X (compareOp .NotEq) (fun x y => rOp X.K CA .ne [x, y]) := by
  intro pins s σ H x y v u Q I rx ry ⟨F, G, σ', s', ds, r, hK, hC, R, hp, e, q⟩
  obtain ⟨d, d', rfl, p1, p2⟩ := hp.inv2
  replace e : nblO (D.eqq d d') = some r := e
  unfold D.eqq at e
  split at e
  · rename_i hs
    cases e
    obtain ⟨a, b⟩ := p1.scal p2 hs
    exact op_ne pins s σ H x y v u Q I rx ry ⟨a, by rw [b]; exact fin0 R q (.bl _)⟩
  · split at e <;> cases e
    rename_i hk
    rw [Bool.and_eq_true] at hk
    have a := p1.dp R hk.1
    have b := p2.dp R hk.2
    rw [hK] at a b
    exact op_neD hu pins s σ H x y v u Q I rx ry ⟨_, _, a, b, hk.1, hk.2, fin0 R q (.bl _)⟩
theorem cmpq_ok {d e : D} (h : D.cmpq d e = true) : d.okq = true ∧ e.okq = true ∧ PySem.W.alike d.py e.py = true ∧ d.py ≠ .none := by
  unfold D.cmpq at h
  rw [Bool.and_eq_true, Bool.and_eq_true, Bool.and_eq_true] at h
  refine ⟨h.1.1.1, h.1.1.2, h.1.2, ?_⟩
  have h2 := h.2
  cases d <;> first | (intro z; cases z; done) | (exact Bool.noConfusion h2)
theorem cmp_room {d : D} {e : PyData} {u : Nat} (h : d.okq = true) (hu : u + 64 < cLine) : u + min d.py.depth e.depth < cLine := by
  unfold D.okq SeqAt.shaped at h
  rw [Bool.and_eq_true, decide_eq_true_eq] at h
  have := h.2
  omega
theorem o_lt (hu : X.A.units + 64 < cLine) : OpR X (compareOp .Lt) (fun x y => rOp X.K CA .lt [x, y]) := by
  intro pins s σ H x y v u Q I rx ry ⟨F, G, σ', s', ds, r, hK, hC, R, hp, e, q⟩
  obtain ⟨d, d', rfl, p1, p2⟩ := hp.inv2
  replace e : blO (ltS d d') = some r := e
  unfold ltS at e
  split at e
  · cases e
    exact op_lt pins s σ H x y v u Q I rx ry ⟨_, _, p1.int, p2.int, fin0 R q (.bl _)⟩
  · cases e
    exact op_lt_str pins s σ H x y v u Q I rx ry ⟨_, _, p1.str, p2.str, fin0 R q (.bl _)⟩
  · split at e
    · rename_i hq
      cases e
      obtain ⟨a1, a2, a3, a4⟩ := cmpq_ok hq
      have b1 := p1.dp R a1
      have b2 := p2.dp R a2
      rw [hK] at b1 b2
      obtain ⟨as, r1⟩ := Dp.reads I _ x v b1 rx
      obtain ⟨bs, r2⟩ := Dp.reads I _ y u b2 ry
      exact PySem.W.lt_data r1 r2 a3 a4 (cmp_room a1 hu) ⟨.bl _, H, I, rfl, fin0 R q (.bl _)⟩
    · cases e
theorem o_gt (hu : X.A.units + 64 < cLine) : OpR X (compareOp .Gt) (fun x y => rOp X.K CA .gt [x, y]) := by
  intro pins s σ H x y v u Q I rx ry ⟨F, G, σ', s', ds, r, hK, hC, R, hp, e, q⟩
  obtain ⟨d, d', rfl, p1, p2⟩ := hp.inv2
  replace e : blO (ltS d' d) = some r := e
  unfold ltS at e
  split at e
  · cases e
    exact op_gt pins s σ H x y v u Q I rx ry ⟨_, _, p1.int, p2.int, fin0 R q (.bl _)⟩
  · cases e
    exact op_gt_str pins s σ H x y v u Q I rx ry ⟨_, _, p1.str, p2.str, fin0 R q (.bl _)⟩
  · split at e
    · rename_i hq
      cases e
      obtain ⟨a1, a2, a3, a4⟩ := cmpq_ok hq
      have b1 := p1.dp R a2
      have b2 := p2.dp R a1
      rw [hK] at b1 b2
      obtain ⟨as, r1⟩ := Dp.reads I _ x v b1 rx
      obtain ⟨bs, r2⟩ := Dp.reads I _ y u b2 ry
      have a3' : PySem.W.alike d.py d'.py = true := by rw [PySem.W.alike_comm]; exact a3
      exact PySem.W.gt_data r1 r2 a3' (PySem.W.ne_none_both a3 a4) (cmp_room a2 hu) ⟨.bl _, H, I, rfl, fin0 R q (.bl _)⟩
    · cases e
theorem o_le (hu : X.A.units + 64 < cLine) : OpR X (compareOp .LtE) (fun x y => rOp X.K CA .le [x, y]) := by
  intro pins s σ H x y v u Q I rx ry ⟨F, G, σ', s', ds, r, hK, hC, R, hp, e, q⟩
  obtain ⟨d, d', rfl, p1, p2⟩ := hp.inv2
  replace e : blO (leS d d') = some r := e
  unfold leS at e
  split at e
  · cases e
    exact op_le pins s σ H x y v u Q I rx ry ⟨_, _, p1.int, p2.int, fin0 R q (.bl _)⟩
  · cases e
    exact op_le_str pins s σ H x y v u Q I rx ry ⟨_, _, p1.str, p2.str, fin0 R q (.bl _)⟩
  · split at e
    · rename_i hq
      cases e
      obtain ⟨a1, a2, a3, a4⟩ := cmpq_ok hq
      have b1 := p1.dp R a1
      have b2 := p2.dp R a2
      rw [hK] at b1 b2
      obtain ⟨as, r1⟩ := Dp.reads I _ x v b1 rx
      obtain ⟨bs, r2⟩ := Dp.reads I _ y u b2 ry
      exact PySem.W.le_data r1 r2 a3 a4 (cmp_room a1 hu) ⟨.bl _, H, I, rfl, fin0 R q (.bl _)⟩
    · cases e
theorem o_ge (hu : X.A.units + 64 < cLine) : OpR X (compareOp .GtE) (fun x y => rOp X.K CA .ge [x, y]) := by
  intro pins s σ H x y v u Q I rx ry ⟨F, G, σ', s', ds, r, hK, hC, R, hp, e, q⟩
  obtain ⟨d, d', rfl, p1, p2⟩ := hp.inv2
  replace e : blO (leS d' d) = some r := e
  unfold leS at e
  split at e
  · cases e
    exact op_ge pins s σ H x y v u Q I rx ry ⟨_, _, p1.int, p2.int, fin0 R q (.bl _)⟩
  · cases e
    exact op_ge_str pins s σ H x y v u Q I rx ry ⟨_, _, p1.str, p2.str, fin0 R q (.bl _)⟩
  · split at e
    · rename_i hq
      cases e
      obtain ⟨a1, a2, a3, a4⟩ := cmpq_ok hq
      have b1 := p1.dp R a2
      have b2 := p2.dp R a1
      rw [hK] at b1 b2
      obtain ⟨as, r1⟩ := Dp.reads I _ x v b1 rx
      obtain ⟨bs, r2⟩ := Dp.reads I _ y u b2 ry
      have a3' : PySem.W.alike d.py d'.py = true := by rw [PySem.W.alike_comm]; exact a3
      exact PySem.W.ge_data r1 r2 a3' (PySem.W.ne_none_both a3 a4) (cmp_room a2 hu) ⟨.bl _, H, I, rfl, fin0 R q (.bl _)⟩
    · cases e
theorem any_pys {d : PyData} : ∀ {xs : List D}, (D.pys xs).any (fun z => PyData.eqv z d) = xs.any fun y => PyData.eqv y.py d
  | [] => rfl
  | x :: xs => by
    show (PyData.eqv x.py d || (D.pys xs).any fun z => PyData.eqv z d) = (PyData.eqv x.py d || xs.any fun y => PyData.eqv y.py d)
    rw [any_pys]
theorem in_aux {F : Fr} {G H : Hp} {σ : L2.St} {s : S} (R : RS F G H σ s) {x y : V} {d e : D} {b : Bool} (p1 : Pk F G H x d) (p2 : Pk F G H y e) (h : inS d e = some b) :
    (∃ i j, x = .str i ∧ y = .str j ∧ b = !(Builtin.Str.occurrences j i 0 j.length 1).isEmpty) ∨ (∃ p xs, y = .ref p ∧ (SqL F.K H p xs ∨ SqT F.K H p xs) ∧ flatV x = true ∧ xs.all flatV = true ∧ b = inV x xs) ∨
    (∃ xs, e = .lst xs ∧ d.okq = true ∧ e.okq = true ∧ b = xs.any fun y => D.eqv y d) := by
  unfold inS at h
  split at h
  · rename_i xs
    unfold D.isinL at h
    split at h
    · rename_i hf
      cases h
      rw [Bool.and_eq_true] at hf
      obtain ⟨p, vs, rfl, h1, r1⟩ := p2.lst R.gh
      have hx := p1.flat hf.1
      exact .inr (.inl ⟨p, vs, rfl, .inl (SqL.of h1), flat_V hx, r1.flats hf.2, r1.any_eqV hx hf.2⟩)
    · split at h
      · rename_i hf
        cases h
        rw [Bool.and_eq_true] at hf
        exact .inr (.inr ⟨xs, rfl, hf.1, hf.2, rfl⟩)
      · cases h
  · rename_i xs
    unfold D.isin at h
    split at h
    · rename_i hf
      cases h
      rw [Bool.and_eq_true] at hf
      obtain ⟨p, vs, rfl, h1, r1⟩ := p2.tup R.gh
      have hx := p1.flat hf.1
      exact .inr (.inl ⟨p, vs, rfl, .inr h1, flat_V hx, r1.flats hf.2, r1.any_eqV hx hf.2⟩)
    · cases h
  · split at h
    · cases h
      exact .inl ⟨_, _, p1.str, p2.str, rfl⟩
    · cases h
  · cases h
theorem o_isin (hu : X.A.units + 65 < cLine) : OpR X (compareOp .In) (fun x y => rOp X.K CA .isin [x, y]) := by
  intro pins s σ H x y v u Q I rx ry ⟨F, G, σ', s', ds, r, hK, hC, R, hp, e, q⟩
  obtain ⟨d, d', rfl, p1, p2⟩ := hp.inv2
  replace e : blO (inS d d') = some r := e
  cases he : inS d d' with
  | none => rw [he] at e; cases e
  | some b =>
    rw [he] at e
    cases e
    rcases in_aux R p1 p2 he with ⟨i, j, rfl, rfl, rfl⟩ | ⟨p, xs, rfl, h1, h2, h3, rfl⟩ | ⟨xs, rfl, h1, h2, rfl⟩
    · exact op_in_str pins s σ H _ _ v u Q I rx ry ⟨_, _, rfl, rfl, fin0 R q (.bl _)⟩
    · rw [hK] at h1
      exact op_in_seq pins s σ H _ _ v u Q I rx ry ⟨p, xs, rfl, h1, h2, h3, fin0 R q (.bl _)⟩
    · have a := p1.dp R h1
      have b := p2.dp R h2
      rw [hK] at a b
      refine op_inD hu pins s σ H _ _ v u Q I rx ry ⟨_, D.pys xs, a, b, h1, h2, ?_⟩
      rw [any_pys]
      exact fin0 R q (.bl _)
theorem o_notin (hu : X.A.units + 65 < cLine) : OpR X (compareOp .NotIn) (fun x y => rOp X.K CA .notin [x, y]) := by
  intro pins s σ H x y v u Q I rx ry ⟨F, G, σ', s', ds, r, hK, hC, R, hp, e, q⟩
  obtain ⟨d, d', rfl, p1, p2⟩ := hp.inv2
  replace e : nblO (inS d d') = some r := e
  cases he : inS d d' with
  | none => rw [he] at e; cases e
  | some b =>
    rw [he] at e
    cases e
    rcases in_aux R p1 p2 he with ⟨i, j, rfl, rfl, rfl⟩ | ⟨p, xs, rfl, h1, h2, h3, rfl⟩ | ⟨xs, rfl, h1, h2, rfl⟩
    · exact op_notIn_str pins s σ H _ _ v u Q I rx ry ⟨_, _, rfl, rfl, fin0 R q (.bl _)⟩
    · rw [hK] at h1
      exact op_notIn_seq pins s σ H _ _ v u Q I rx ry ⟨p, xs, rfl, h1, h2, h3, fin0 R q (.bl _)⟩
    · have a := p1.dp R h1
      have b := p2.dp R h2
      rw [hK] at a b
      refine op_notInD hu pins s σ H _ _ v u Q I rx ry ⟨_, D.pys xs, a, b, h1, h2, ?_⟩
      rw [any_pys]
      exact fin0 R q (.bl _)
theorem Pk.isN {F : Fr} {G H : Hp} {v : V} {d : D} (h : Pk F G H v d) : decide (v = .non) = decide (d = .non) := by
  refine decide_eq_decide.mpr ⟨fun e => ?_, fun e => ?_⟩
  · subst e
    cases h with
    | g h => cases h; rfl
    | o hv _ _ => cases hv
  · subst e; exact h.non
theorem o_isN : OpR X (compareOp .Is) (fun x y H Q => y = .non ∧ rOp X.K CA .isN [x] H Q) := by
  intro pins s σ H x y v u Q I rx ry ⟨hy, F, G, σ', s', ds, r, hK, hC, R, hp, e, q⟩
  obtain ⟨d, rfl, p1⟩ := hp.inv1
  cases e
  exact op_isN pins s σ H x y v u Q I rx ry ⟨hy, by rw [p1.isN]; exact fin0 R q (.bl _)⟩
theorem o_isnN : OpR X (compareOp .IsNot) (fun x y H Q => y = .non ∧ rOp X.K CA .isnN [x] H Q) := by
  intro pins s σ H x y v u Q I rx ry ⟨hy, F, G, σ', s', ds, r, hK, hC, R, hp, e, q⟩
  obtain ⟨d, rfl, p1⟩ := hp.inv1
  cases e
  exact op_notN pins s σ H x y v u Q I rx ry ⟨hy, by rw [p1.isN]; exact fin0 R q (.bl _)⟩
theorem o_ix : IxR X (fun x y => rOp X.K CA .ix [x, y]) := by
  intro value slice pins s σ H x y v u Q I rx ry ⟨F, G, σ', s', ds, r, hK, hC, R, hp, e, q⟩ hs
  subst hC
  obtain ⟨d, d', rfl, p1, p2⟩ := hp.inv2
  replace e : ixS d d' = some r := e
  unfold ixS at e
  split at e
  · rename_i xs i
    cases hi : ixI xs i with
    | none => rw [hi] at e; cases e
    | some d =>
      rw [hi] at e
      cases e
      obtain ⟨p, vs, rfl, h1, r1⟩ := p1.lst R.gh
      obtain ⟨w, hw, rw'⟩ := r1.atI hi
      exact ix_list value slice pins s σ H _ y v u Q I rx ry ⟨p, vs, i, w, rfl, p2.int, SqL.of h1, hw, fin0 R q rw'⟩ hs
  · rename_i xs i
    cases hi : ixI xs i with
    | none => rw [hi] at e; cases e
    | some d =>
      rw [hi] at e
      cases e
      obtain ⟨p, vs, rfl, h1, r1⟩ := p1.tup R.gh
      rw [hK] at h1
      obtain ⟨w, hw, rw'⟩ := r1.atI hi
      exact ix_tup value slice pins s σ H _ y v u Q I rx ry ⟨p, vs, i, w, rfl, p2.int, h1, hw, fin0 R q rw'⟩ hs
  · rename_i z i
    split at e
    · rename_i hz
      cases hi : ixI z.cps.toList i with
      | none => rw [hi] at e; cases e
      | some c =>
        rw [hi] at e
        cases e
        exact ix_str value slice pins s σ H x y v u Q I rx ry ⟨z, i, c, p1.str, p2.int, sz hz, hi, fin0 R q (.str _)⟩ hs
    · cases e
  · cases e
/-- one argument -/
theorem rOp1 {o : Op} {xs : List V} {H : Hp} {Q : VK} (h : rOp X.K CA o xs H Q) (hn : ∀ ds x, opSem o ds = some x → ds.length = 1) : ∃ v F G σ s d x, xs = [v] ∧ F.K = X.K ∧ F.CA = CA ∧ RS F G H σ s ∧ Pk F G H v d ∧ opSem o [d] = some x ∧ ∀ v G' H', Grow G H G' H' → Res F G' H' σ s v x → Q v H' := by
  obtain ⟨F, G, σ', s', ds, r, hK, hC, R, hp, e, q⟩ := h
  have h1 := hn ds r e
  have h2 := hp.len
  obtain ⟨d, rfl⟩ := List.length_eq_one_iff.mp h1
  obtain ⟨x, rfl⟩ := List.length_eq_one_iff.mp (h2.trans h1)
  exact ⟨x, F, G, σ', s', d, r, rfl, hK, hC, R, hp.1, e, q⟩
theorem rOp2 {o : Op} {xs : List V} {H : Hp} {Q : VK} (h : rOp X.K CA o xs H Q) (hn : ∀ ds x, opSem o ds = some x → ds.length = 2) : ∃ v w F G σ s d d' x, xs = [v, w] ∧ F.K = X.K ∧ F.CA = CA ∧ RS F G H σ s ∧ Pk F G H v d ∧ Pk F G H w d' ∧ opSem o [d, d'] = some x ∧ ∀ v G' H', Grow G H G' H' → Res F G' H' σ s v x → Q v H' := by
  obtain ⟨F, G, σ', s', ds, r, hK, hC, R, hp, e, q⟩ := h
  have h1 := hn ds r e
  have h2 := hp.len
  obtain ⟨d, d', rfl⟩ := two_of h1
  obtain ⟨x, y, rfl⟩ := two_of (h2.trans h1)
  exact ⟨x, y, F, G, σ', s', d, d', r, rfl, hK, hC, R, hp.1, hp.2.1, e, q⟩
theorem len1 {o : Op} (h0 : opSem o [] = none) (h2 : ∀ a b r, opSem o (a :: b :: r) = none) (ds : List D) (x : SV) (h : opSem o ds = some x) : ds.length = 1 := by
  match ds, h with
  | [], h => rw [h0] at h; cases h
  | [_], _ => rfl
  | a :: b :: r, h => rw [h2] at h; cases h
theorem len2 {o : Op} (h0 : opSem o [] = none) (h1 : ∀ a, opSem o [a] = none) (h2 : ∀ a b c r, opSem o (a :: b :: c :: r) = none) (ds : List D) (x : SV) (h : opSem o ds = some x) : ds.length = 2 := by
  match ds, h with
  | [], h => rw [h0] at h; cases h
  | [a], h => rw [h1] at h; cases h
  | [_, _], _ => rfl
  | a :: b :: c :: r, h => rw [h2] at h; cases h
theorem o_len : CallR X (.builtin "len") (rOp X.K CA .len) := by
  intro pins s σ H xs us Q I rx h
  obtain ⟨v, F, G, σ', s', d, r, rfl, hK, hC, R, p1, e, q⟩ := rOp1 h (len1 rfl (fun a _ _ => by first | rfl | (cases a <;> rfl)))
  replace e : lenS d = some r := e
  unfold lenS at e
  split at e
  · cases e
    obtain ⟨p, vs, rfl, h1, r1⟩ := p1.lst R.gh
    exact call_len pins s σ H _ us Q I rx ⟨_, vs.length, rfl, .inl ⟨_, SqL.of h1, rfl⟩, by rw [r1.length]; exact fin0 R q (.int _)⟩
  · cases e
    obtain ⟨p, vs, rfl, h1, r1⟩ := p1.tup R.gh
    rw [hK] at h1
    exact call_len pins s σ H _ us Q I rx ⟨_, vs.length, rfl, .inr ⟨_, h1, rfl⟩, by rw [r1.length]; exact fin0 R q (.int _)⟩
  · split at e <;> cases e
    rename_i hz
    have := p1.str
    subst this
    exact call_len pins s σ H _ us Q I rx ⟨_, _, rfl, ⟨sz hz, rfl⟩, fin0 R q (.int _)⟩
  · cases e
theorem o_int1 : CallR X (.type "int") (rOp X.K CA .int1) := by
  intro pins s σ H xs us Q I rx h
  obtain ⟨v, F, G, σ', s', d, r, rfl, hK, hC, R, p1, e, q⟩ := rOp1 h (len1 rfl (fun a _ _ => by first | rfl | (cases a <;> rfl)))
  cases d <;> first | (cases e; done) | skip
  cases e
  have := p1.int
  subst this
  exact call_int1 pins s σ H _ us Q I rx (.inl ⟨_, rfl, fin0 R q (.int _)⟩)
theorem o_str1 : CallR X (.type "str") (rOp X.K CA .str1) := by
  intro pins s σ H xs us Q I rx h
  obtain ⟨v, F, G, σ', s', d, r, rfl, hK, hC, R, p1, e, q⟩ := rOp1 h (len1 rfl (fun a _ _ => by first | rfl | (cases a <;> rfl)))
  cases d <;> first | (cases e; done) | skip
  rename_i i
  replace e : (if i.natAbs.log2 < 1920 then some (SV.shr (.str (toString i))) else none) = some r := e
  split at e <;> cases e
  rename_i hz
  have := p1.int
  subst this
  exact call_str_int pins s σ H _ us Q I rx ⟨_, rfl, hz, fin0 R q (.str _)⟩
theorem o_tuple : CallR X (.type "tuple") (rOp X.K CA .tuple) := by
  intro pins s σ H xs us Q I rx h
  obtain ⟨v, F, G, σ', s', d, r, rfl, hK, hC, R, p1, e, q⟩ := rOp1 h (len1 rfl (fun a _ _ => by first | rfl | (cases a <;> rfl)))
  replace e : tupS d = some r := e
  unfold tupS at e
  split at e
  · cases e
    obtain ⟨p, vs, rfl, h1, r1⟩ := p1.lst R.gh
    exact call_tuple_of pins s σ H _ us Q I rx ⟨p, vs, rfl, .inl ⟨SqL.of h1, finT R q r1⟩⟩
  · cases e
    obtain ⟨p, vs, rfl, h1, r1⟩ := p1.tup R.gh
    rw [hK] at h1
    exact call_tuple_of pins s σ H _ us Q I rx ⟨p, vs, rfl, .inr ⟨h1, fin0 R q p1.tupG⟩⟩
  · cases e
theorem o_list : CallR X (.type "list") (rOp X.K CA .list) := by
  intro pins s σ H xs us Q I rx h
  obtain ⟨v, F, G, σ', s', d, r, rfl, hK, hC, R, p1, e, q⟩ := rOp1 h (len1 rfl (fun a _ _ => by first | rfl | (cases a <;> rfl)))
  replace e : lstS d = some r := e
  unfold lstS at e
  split at e
  · cases e
    obtain ⟨p, vs, rfl, h1, r1⟩ := p1.lst R.gh
    exact call_list_of pins s σ H _ us Q I rx ⟨p, vs, rfl, .inl (SqL.of h1), finL R q r1⟩
  · cases e
    obtain ⟨p, vs, rfl, h1, r1⟩ := p1.tup R.gh
    rw [hK] at h1
    exact call_list_of pins s σ H _ us Q I rx ⟨p, vs, rfl, .inr h1, finL R q r1⟩
  · cases e
theorem sorted_unique : ∀ {xs ys : List Int}, xs.Perm ys → xs.Pairwise (· ≤ ·) → ys.Pairwise (· ≤ ·) → xs = ys := fun hp h1 h2 =>
  List.Perm.eq_of_pairwise (le := fun a b => a ≤ b) (fun a b _ _ x y => Int.le_antisymm x y) h1 h2 hp
theorem o_sorted : CallR X (.builtin "sorted") (rOp X.K CA .sorted) := by
  intro pins s σ H xs us Q I rx h
  obtain ⟨v, F, G, σ', s', d, r, rfl, hK, hC, R, p1, e, q⟩ := rOp1 h (len1 rfl (fun a _ _ => by first | rfl | (cases a <;> rfl)))
  replace e : sortS d = some r := e
  unfold sortS at e
  split at e
  · rename_i ds
    cases hi : D.ints ds with
    | none => rw [hi] at e; cases e
    | some is =>
      rw [hi] at e
      cases e
      obtain ⟨p, vs, rfl, h1, r1⟩ := p1.lst R.gh
      have := r1.ints hi
      subst this
      refine cr_sortedI pins s σ H _ us Q I rx ⟨p, is, rfl, SqL.of h1, fun ns' a hp hs hn => ?_⟩
      have e1 : ns' = msort is := by
        refine sorted_unique (hp.trans (List.mergeSort_perm is _).symm) hs ?_
        have := List.pairwise_mergeSort (le := fun a b : Int => decide (a ≤ b)) (fun a b c x y => decide_eq_true (Int.le_trans (of_decide_eq_true x) (of_decide_eq_true y))) (fun a b => by
          rcases Int.le_total a b with z | z <;> simp [z]) is
        exact this.imp fun x => of_decide_eq_true x
      subst e1
      exact finL R q (Reps.ofInts _) a hn
  · cases e
theorem o_all (hc : X.calm = true) : CallR X (.builtin "all") (rOp X.K CA .all) := by
  intro pins s σ H xs us Q I rx h
  obtain ⟨v, F, G, σ', s', d, r, rfl, hK, hC, R, p1, e, q⟩ := rOp1 h (len1 rfl (fun a _ _ => by first | rfl | (cases a <;> rfl)))
  cases d <;> first | (cases e; done) | skip
  rename_i ds
  replace e : ((D.bls ds).map fun bs => SV.shr (.bl (bs.all id))) = some r := e
  cases hi : D.bls ds with
  | none => rw [hi] at e; cases e
  | some is =>
    rw [hi] at e
    cases e
    obtain ⟨p, vs, rfl, h1, r1⟩ := p1.lst R.gh
    have := r1.bls hi
    subst this
    exact cr_all hc pins s σ H _ us Q I rx ⟨p, is, rfl, SqL.of h1, fin0 R q (.bl _)⟩
theorem o_any (hc : X.calm = true) : CallR X (.builtin "any") (rOp X.K CA .any) := by
  intro pins s σ H xs us Q I rx h
  obtain ⟨v, F, G, σ', s', d, r, rfl, hK, hC, R, p1, e, q⟩ := rOp1 h (len1 rfl (fun a _ _ => by first | rfl | (cases a <;> rfl)))
  cases d <;> first | (cases e; done) | skip
  rename_i ds
  replace e : ((D.bls ds).map fun bs => SV.shr (.bl (bs.any id))) = some r := e
  cases hi : D.bls ds with
  | none => rw [hi] at e; cases e
  | some is =>
    rw [hi] at e
    cases e
    obtain ⟨p, vs, rfl, h1, r1⟩ := p1.lst R.gh
    have := r1.bls hi
    subst this
    exact cr_any hc pins s σ H _ us Q I rx ⟨p, is, rfl, SqL.of h1, fin0 R q (.bl _)⟩
theorem o_sum (hc : X.calm = true) : CallR X (.builtin "sum") (rOp X.K CA .sum) := by
  intro pins s σ H xs us Q I rx h
  obtain ⟨v, F, G, σ', s', d, r, rfl, hK, hC, R, p1, e, q⟩ := rOp1 h (len1 rfl (fun a _ _ => by first | rfl | (cases a <;> rfl)))
  cases d <;> first | (cases e; done) | skip
  rename_i ds
  replace e : ((D.ints ds).map fun bs => SV.shr (.int bs.sum)) = some r := e
  cases hi : D.ints ds with
  | none => rw [hi] at e; cases e
  | some is =>
    rw [hi] at e
    cases e
    obtain ⟨p, vs, rfl, h1, r1⟩ := p1.lst R.gh
    have := r1.ints hi
    subst this
    exact cr_sum hc pins s σ H _ us Q I rx ⟨p, is, rfl, SqL.of h1, fin0 R q (.int _)⟩
theorem o_max2 (hc : X.calm = true) : CallR X (.builtin "max") (rOp X.K CA .max2) := by
  intro pins s σ H xs us Q I rx h
  obtain ⟨v, w, F, G, σ', s', d, d', r, rfl, hK, hC, R, p1, p2, e, q⟩ := rOp2 h (len2 rfl (fun a => by cases a <;> rfl) (fun a b _ _ => by cases a <;> cases b <;> rfl))
  cases d <;> first | (cases e; done) | skip
  cases d' <;> first | (cases e; done) | skip
  cases e
  have h1 := p1.int
  have h2 := p2.int
  subst h1 h2
  exact call_max2 hc pins s σ H _ us Q I rx ⟨_, _, rfl, fin0 R q (.int _)⟩
theorem o_min2 (hc : X.calm = true) : CallR X (.builtin "min") (rOp X.K CA .min2) := by
  intro pins s σ H xs us Q I rx h
  obtain ⟨v, w, F, G, σ', s', d, d', r, rfl, hK, hC, R, p1, p2, e, q⟩ := rOp2 h (len2 rfl (fun a => by cases a <;> rfl) (fun a b _ _ => by cases a <;> cases b <;> rfl))
  cases d <;> first | (cases e; done) | skip
  cases d' <;> first | (cases e; done) | skip
  cases e
  have h1 := p1.int
  have h2 := p2.int
  subst h1 h2
  exact call_min2 hc pins s σ H _ us Q I rx ⟨_, _, rfl, fin0 R q (.int _)⟩
theorem o_divmod : CallR X (.builtin "divmod") (rOp X.K CA .divmod) := by
  intro pins s σ H xs us Q I rx h
  obtain ⟨v, w, F, G, σ', s', d, d', r, rfl, hK, hC, R, p1, p2, e, q⟩ := rOp2 h (len2 rfl (fun a => by cases a <;> rfl) (fun a b _ _ => by cases a <;> cases b <;> rfl))
  cases d <;> first | (cases e; done) | skip
  cases d' <;> first | (cases e; done) | skip
  rename_i i j
  replace e : (if divG j = true then some (SV.shr (.tup [.int (i / j), .int (i % j)])) else none) = some r := e
  split at e <;> cases e
  rename_i hg
  have h1 := p1.int
  have h2 := p2.int
  subst h1 h2
  exact call_divmod pins s σ H _ us Q I rx ⟨_, _, rfl, (divG_ok hg), finT R q (.cons (.int _) (.cons (.int _) .nil))⟩
/-- truth -/
theorem Pk.tru {F : Fr} {G H : Hp} {σ : L2.St} {s : S} (R : RS F G H σ s) {v : V} {d : D} {b : Bool} (h : Pk F G H v d) (e : d.truth = some b) : TruV F.K v H b := by
  unfold D.truth at e
  split at e
  · cases e; rw [h.non]; exact rfl
  · cases e; rw [h.bl]; exact rfl
  · cases e; rw [h.int]; exact rfl
  · split at e <;> cases e
    rename_i hz
    rw [h.str]
    exact ⟨sz hz, rfl⟩
  · cases e
    obtain ⟨p, vs, rfl, h1, r1⟩ := h.lst R.gh
    refine .inl ⟨_, SqL.of h1, ?_⟩
    cases r1 <;> rfl
  · cases e
    obtain ⟨p, vs, rfl, h1, r1⟩ := h.tup R.gh
    refine .inr (.inl ⟨_, h1, ?_⟩)
    cases r1 <;> rfl
  · cases e
end
end Den
set_option Elab.async false
set_option linter.all false
set_option maxRecDepth 100000
set_option autoImplicit false
set_option maxHeartbeats 4000000
namespace Den
open PySem PySem.Spec PyProof.Rows L2
/-! ### what a loop walks -/
def WalkOk (K : PySem.W.Frag) (vs : List V) (ps : List PV) (ds items : List D) (J : L2.It) : Prop := ∀ (F : Fr), F.K = K → ∀ (σ : L2.St) (G H : Hp) (s : S) (i : Nat), RS F G H σ s → PVs F G σ vs ps → s.looks ps = some ds →
  (items.length ≤ i → J.stop i H) ∧ ∀ d, items[i]? = some d → J.go i H ∧ ∀ x H', J.yld i H x H' → ∃ G', Ex G G' ∧ RS F G' H' σ s ∧ Rep F.K F.CA G' x d
section
variable {K : PySem.W.Frag} {F : Fr} {vs : List V} {ps : List PV} {ds items xs ys : List D}
theorem walk_list {a : Addr} : WalkOk K [.ref a] ps [.lst xs] xs (Itl K a) := fun F hK σ G H s i R pv e => by
  subst hK
  obtain ⟨p, vs, hv, h, r⟩ := (R.looks pv e).1.lst R.gh
  cases hv
  refine ⟨fun hi => ⟨vs, SqL.of h, by rw [r.length]; exact hi⟩, fun d hd => ?_⟩
  obtain ⟨v, e1, r1⟩ := r.get hd
  refine ⟨⟨vs, v, SqL.of h, e1⟩, fun x H' ⟨e2, e3⟩ => ?_⟩
  subst e2
  have := e3 vs (SqL.of h)
  rw [e1] at this
  cases this
  exact ⟨G, Evl.Ex.refl _, R, r1⟩
theorem walk_frl {a : Addr} : WalkOk K [.ref a] ps [.frl xs] xs (Itl K a) := fun F hK σ G H s i R pv e => by
  subst hK
  obtain ⟨p, vs, hv, h, r⟩ := (R.looks pv e).1.frl R.gh
  cases hv
  refine ⟨fun hi => ⟨vs, h, by rw [r.length]; exact hi⟩, fun d hd => ?_⟩
  obtain ⟨v, e1, r1⟩ := r.get hd
  refine ⟨⟨vs, v, h, e1⟩, fun x H' ⟨e2, e3⟩ => ?_⟩
  subst e2
  have := e3 vs h
  rw [e1] at this
  cases this
  exact ⟨G, Evl.Ex.refl _, R, r1⟩
theorem walk_tup {a : Addr} : WalkOk K [.ref a] ps [.tup xs] xs (Itt K a) := fun F hK σ G H s i R pv e => by
  subst hK
  obtain ⟨p, vs, hv, h, r⟩ := (R.looks pv e).1.tup R.gh
  cases hv
  refine ⟨fun hi => ⟨vs, h, by rw [r.length]; exact hi⟩, fun d hd => ?_⟩
  obtain ⟨v, e1, r1⟩ := r.get hd
  refine ⟨⟨vs, v, h, e1⟩, fun x H' ⟨e2, e3⟩ => ?_⟩
  subst e2
  have := e3 vs h
  rw [e1] at this
  cases this
  exact ⟨G, Evl.Ex.refl _, R, r1⟩
theorem walk_str {z : Str} : WalkOk K [.str z] ps [.str z] (z.cps.toList.map fun c => .str ⟨#[c]⟩) (Its z) := fun F hK σ G H s i R pv e => by
  subst hK
  refine ⟨fun hi => (by simpa using hi : z.cps.size ≤ i), fun d hd => ?_⟩
  rw [List.getElem?_map] at hd
  cases hc : z.cps.toList[i]? with
  | none => rw [hc] at hd; cases hd
  | some c =>
    rw [hc] at hd
    cases hd
    have hc' : z.cps[i]? = some c := by simpa using hc
    refine ⟨(Array.getElem?_eq_some_iff.mp hc').1, fun x H' ⟨e2, c', e3, e4⟩ => ?_⟩
    subst e2
    rw [hc'] at e3
    cases e3
    subst e4
    exact ⟨G, Evl.Ex.refl _, R, .str _⟩
theorem walk_rng {lo : Int} {n : Nat} : WalkOk K vs ps ds ((List.range n).map fun k => .int (lo + (k : Nat))) (Itr lo n) := fun F hK σ G H s i R pv e => by
  subst hK
  refine ⟨fun hi => (by simpa using hi : n ≤ i), fun d hd => ?_⟩
  rw [List.getElem?_map] at hd
  cases hc : (List.range n)[i]? with
  | none => rw [hc] at hd; cases hd
  | some c =>
    rw [hc] at hd
    cases hd
    obtain ⟨h1, h2⟩ := List.getElem?_eq_some_iff.mp hc
    rw [List.getElem_range] at h2
    subst h2
    refine ⟨(by simpa using h1 : i < n), fun x H' ⟨e2, e3⟩ => ?_⟩
    subst e2
    subst e3
    exact ⟨G, Evl.Ex.refl _, R, .int _⟩
theorem walk_rev {a : Addr} : WalkOk K [.ref a] ps [.lst xs] xs.reverse (Itv K a xs.length) := fun F hK σ G H s i R pv e => by
  subst hK
  obtain ⟨p, vs, hv, h, r⟩ := (R.looks pv e).1.lst R.gh
  cases hv
  refine ⟨fun hi => (by simpa using hi : xs.length ≤ i), fun d hd => ?_⟩
  have hlt : i < xs.length := by
    have := (List.getElem?_eq_some_iff.mp hd).1
    simpa using this
  rw [List.getElem?_reverse hlt] at hd
  obtain ⟨v, e1, r1⟩ := r.get hd
  refine ⟨⟨hlt, vs, v, SqL.of h, e1⟩, fun x H' ⟨e2, e3⟩ => ?_⟩
  subst e2
  have := e3 vs (SqL.of h)
  rw [e1] at this
  cases this
  exact ⟨G, Evl.Ex.refl _, R, r1⟩
theorem walk_revT {a : Addr} : WalkOk K [.ref a] ps [.tup xs] xs.reverse (RT.ItvT K a xs.length) := fun F hK σ G H s i R pv e => by
  subst hK
  obtain ⟨p, vs, hv, h, r⟩ := (R.looks pv e).1.tup R.gh
  cases hv
  refine ⟨fun hi => (by simpa using hi : xs.length ≤ i), fun d hd => ?_⟩
  have hlt : i < xs.length := by
    have := (List.getElem?_eq_some_iff.mp hd).1
    simpa using this
  rw [List.getElem?_reverse hlt] at hd
  obtain ⟨v, e1, r1⟩ := r.get hd
  refine ⟨⟨hlt, vs, v, h, e1⟩, fun x H' ⟨e2, e3⟩ => ?_⟩
  subst e2
  have := e3 vs h
  rw [e1] at this
  cases this
  exact ⟨G, Evl.Ex.refl _, R, r1⟩
theorem new_pair {G H : Hp} {σ : L2.St} {s : S} (R : RS F G H σ s) {T : Addr} {x y : V} {d e : D} (hT : H T = none) (rx : Rep F.K F.CA G x d) (ry : Rep F.K F.CA G y e) :
    ∃ G', Ex G G' ∧ RS F G' (upd H T (.tup [x, y])) σ s ∧ Rep F.K F.CA G' (.ref T) (.tup [d, e]) :=
  ⟨upd G T (.tup [x, y]), Evl.Ex.new (gnone R.gh hT), R.grow (Grow.newG R.gh hT), .tup (Evl.st_of upd_same) (.cons (rx.mono (Evl.Ex.new (gnone R.gh hT))) (.cons (ry.mono (Evl.Ex.new (gnone R.gh hT))) .nil))⟩
theorem walk_enum {a : Addr} : WalkOk K [.ref a] ps [.lst xs] (xs.zipIdx.map fun p => .tup [.int p.2, p.1]) (Ite K a) := fun F hK σ G H s i R pv e => by
  subst hK
  obtain ⟨p, vs, hv, h, r⟩ := (R.looks pv e).1.lst R.gh
  cases hv
  refine ⟨fun hi => ⟨vs, SqL.of h, by rw [r.length]; simpa using hi⟩, fun d hd => ?_⟩
  rw [List.getElem?_map, List.getElem?_zipIdx] at hd
  cases hc : xs[i]? with
  | none => rw [hc] at hd; cases hd
  | some c =>
    rw [hc] at hd
    cases hd
    obtain ⟨v, e1, r1⟩ := r.get hc
    refine ⟨⟨vs, v, SqL.of h, e1⟩, fun x H' ⟨T, x', e2, e3, e4, e5⟩ => ?_⟩
    subst e2 e4
    have := e5 vs (SqL.of h)
    rw [e1] at this
    cases this
    have := new_pair R e3 (.int ((i : Nat) : Int)) r1
    simpa using this
theorem walk_zip {a b : Addr} : WalkOk K [.ref a, .ref b] ps [.lst xs, .lst ys] ((xs.zip ys).map fun p => .tup [p.1, p.2]) (Itz K a b) := fun F hK σ G H s i R pv e => by
  subst hK
  obtain ⟨k1, k2, _⟩ := R.looks pv e
  obtain ⟨p, vs, hv, h, r⟩ := k1.lst R.gh
  obtain ⟨p', ws, hv', h', r'⟩ := k2.lst R.gh
  cases hv
  cases hv'
  refine ⟨fun hi => ⟨vs, ws, SqL.of h, SqL.of h', by rw [r.length, r'.length]; have : min xs.length ys.length ≤ i := by simpa using hi
                                                     omega⟩, fun d hd => ?_⟩
  rw [List.getElem?_map] at hd
  cases hc : (xs.zip ys)[i]? with
  | none => rw [hc] at hd; cases hd
  | some c =>
    rw [hc] at hd
    cases hd
    obtain ⟨c1, c2⟩ := List.getElem?_zip_eq_some.mp hc
    obtain ⟨v, e1, r1⟩ := r.get c1
    obtain ⟨w, e1', r1'⟩ := r'.get c2
    refine ⟨⟨vs, ws, v, w, SqL.of h, SqL.of h', e1, e1'⟩, fun x H' ⟨T, x', y', e2, e3, e4, e5, e6⟩ => ?_⟩
    subst e2 e4
    have := e5 vs (SqL.of h)
    rw [e1] at this
    cases this
    have := e6 ws (SqL.of h')
    rw [e1'] at this
    cases this
    exact new_pair R e3 r1 r1'
theorem walk_zipT {a b : Addr} : WalkOk K [.ref a, .ref b] ps [.tup xs, .tup ys] ((xs.zip ys).map fun p => .tup [p.1, p.2]) (RZ.ItzT K a b) := fun F hK σ G H s i R pv e => by
  subst hK
  obtain ⟨k1, k2, _⟩ := R.looks pv e
  obtain ⟨p, vs, hv, h, r⟩ := k1.tup R.gh
  obtain ⟨p', ws, hv', h', r'⟩ := k2.tup R.gh
  cases hv
  cases hv'
  refine ⟨fun hi => ⟨vs, ws, h, h', by rw [r.length, r'.length]; have : min xs.length ys.length ≤ i := by simpa using hi
                                       omega⟩, fun d hd => ?_⟩
  rw [List.getElem?_map] at hd
  cases hc : (xs.zip ys)[i]? with
  | none => rw [hc] at hd; cases hd
  | some c =>
    rw [hc] at hd
    cases hd
    obtain ⟨c1, c2⟩ := List.getElem?_zip_eq_some.mp hc
    obtain ⟨v, e1, r1⟩ := r.get c1
    obtain ⟨w, e1', r1'⟩ := r'.get c2
    refine ⟨⟨vs, ws, v, w, h, h', e1, e1'⟩, fun x H' ⟨T, x', y', e2, e3, e4, e5, e6⟩ => ?_⟩
    subst e2 e4
    have := e5 vs h
    rw [e1] at this
    cases this
    have := e6 ws h'
    rw [e1'] at this
    cases this
    exact new_pair R e3 r1 r1'
end
/-- a list, a tuple, a text -/
def iSeq (K : PySem.W.Frag) (tl : TE) : TI := fun σ H R => tl σ H fun x H1 => (∃ a, x = .ref a ∧ (∃ xs, SqL K H1 a xs) ∧ R (Itl K a) H1) ∨ (∃ a, x = .ref a ∧ (∃ xs, SqT K H1 a xs) ∧ R (Itt K a) H1) ∨ ∃ z, x = .str z ∧ R (Its z) H1
theorem pi_seq {X : Cx} {tg l : Expr} {tl : TE} (hl : PE X l tl) : PI X tg l (iSeq X.K tl) := by
  refine ⟨fun pins s σ H R I h => ?_⟩
  refine thn (hl.run pins s σ H _ I h) fun v s1 ⟨x, H1, I1, r1, q1⟩ => ?_
  rcases q1 with ⟨a, e, ⟨xs, hq⟩, q⟩ | ⟨a, e, ⟨xs, hq⟩, q⟩ | ⟨x, ex, q⟩
  · subst e
    cases r1
    obtain ⟨its, rv, p, hz⟩ := I1.list hq
    refine wpAny_pyIter_list p.isList ?_
    refine ⟨s1.heap.objs.size, [s1.heap.objs.size], _, _, H1, rfl, I1.kept (t' := s1.toks) fun b o e => Heap.get?_push_of_some _ e, turn_list a _, ⟨_, Heap.get?_push_size _ rfl, rfl, rfl⟩, fun b hb => ?_, q⟩
    have e : b = s1.heap.objs.size := by simpa using hb
    subst e
    exact I1.fpOk (Nat.le_refl _) (I1.hok.fresh (Nat.le_refl _))
  · subst e
    cases r1
    obtain ⟨its, rv, p, hz⟩ := I1.tuple hq
    refine wpAny_pyIter_tuple (show s1.heap.IsTuple a its.toArray from p) ?_
    refine ⟨s1.heap.objs.size, [s1.heap.objs.size], _, _, H1, rfl, I1.kept (t' := s1.toks) fun b o e => Heap.get?_push_of_some _ e, turn_tuple a _, ⟨_, Heap.get?_push_size _ rfl, rfl, rfl⟩, fun b hb => ?_, q⟩
    have e : b = s1.heap.objs.size := by simpa using hb
    subst e
    exact I1.fpOk (Nat.le_refl _) (I1.hok.fresh (Nat.le_refl _))
  · subst ex
    obtain ⟨t, rfl⟩ := r1
    cases ha : x.cps.all (· < 128)
    · exact wpAny_pyIter_wide ha (pi_one (tk := s1.toks) I1 _ (turn_str _ x t "str_iterator" (.inr rfl)) ⟨_, Heap.get?_push_size _ rfl, rfl, rfl⟩ q)
    · exact wpAny_pyIter_ascii ha (pi_one (tk := s1.toks) I1 _ (turn_str _ x t "str_ascii_iterator" (.inl rfl)) ⟨_, Heap.get?_push_size _ rfl, rfl, rfl⟩ q)
theorem _root_.L2.PI.imp {X : Cx} {tg e : Expr} {t t' : TI} (h : PI X tg e t) (i : ∀ σ H R, t' σ H R → t σ H R) : PI X tg e t' := ⟨fun pins s σ H R I q => h.run pins s σ H R I (i σ H R q)⟩
def PostI (F : Fr) (G : Hp) (σ : L2.St) (W : WX) (it : It) (R : L2.It → Hp → Prop) : Out (List PV) → Prop
  | .ok ps s => ∀ vs G' H', Ex G G' → RS F G' H' σ s → PVs F G' σ vs ps → ∃ ds items, s.looks ps = some ds ∧ itSem it ds = some items ∧ ∀ J, (∀ qs, WalkOk F.K vs qs ds items J) → R J H'
  | .ex c p s => exW F G σ W c p s
  | .bad => False
def denI (K : PySem.W.Frag) (CA : Nat → Option Addr) (W : WX) (it : It) (m : S → Out (List PV)) : TI := fun σ H R => ∃ F G s, F.K = K ∧ F.CA = CA ∧ RS F G H σ s ∧ PostI F G σ W it R (m s)
def evP (E : Env) (x : X) (s : S) : Out PV := pvOf x (evX E x s) s
section
variable {K : PySem.W.Frag} {CA : Nat → Option Addr} {W : WX} {E : Env}
theorem opt_some {α : Type} {s s' : S} {o : Option α} {x : α} (h : Out.opt s o = .ok x s') : o = some x ∧ s = s' := by
  cases o with
  | none => cases h
  | some y => cases h; exact ⟨rfl, rfl⟩
theorem opt_ex {α : Type} {s s' : S} {o : Option α} {c : Nat} {p : List (Str × D)} (h : Out.opt s o = .ex c p s') : False := by cases o <;> cases h
/-- the last step: an operation on operands -/
theorem op_last {F : Fr} {G0 G H : Hp} {σ : L2.St} {s : S} {Q : VK} {o : Op} {vs : List V} {ps : List PV} (hK : F.K = K) (hC : F.CA = CA) (x0 : Ex G0 G) (R : RS F G H σ s) (pv : PVs F G σ vs ps)
    (h : PostE F G0 σ W Q (.opt s ((s.looks ps).bind (opSem o)))) : rOp K CA o vs H Q := by
  cases hl : s.looks ps with
  | none => rw [hl] at h; exact h.elim
  | some ds =>
    rw [hl] at h
    cases ho : opSem o ds with
    | none => rw [show (some ds).bind (opSem o) = opSem o ds from rfl, ho] at h; exact h.elim
    | some x =>
      rw [show (some ds).bind (opSem o) = opSem o ds from rfl, ho] at h
      exact ⟨F, G, σ, s, ds, x, hK, hC, R, R.looks pv hl, ho, fun v G' H' g r => h v G' H' (x0.trans g.g) (R.grow g) r⟩
theorem chain1 {o : Op} {a : X} {σ : L2.St} {H : Hp} {Q : VK} (h : denE K CA W (evX E (.op o (.cons a .nil))) σ H Q) : denP K CA W (evP E a) σ H fun x H1 => rOp K CA o [x] H1 Q := by
  obtain ⟨F, G, s, hK, hC, R, P⟩ := h
  refine ⟨F, G, s, hK, hC, R, ?_⟩
  have P : PostE F G σ W Q ((((evP E a s).bind fun p s1 => (Out.ok [] s1 : Out (List PV)).bind fun ps s2 => .ok (p :: ps) s2)).bind fun ps s1 => .opt s1 ((s1.looks ps).bind (opSem o))) := P
  cases hm : evP E a s with
  | ok p s1 =>
    rw [hm] at P
    exact fun v G1 H1 x1 R1 pv => op_last hK hC x1 R1 (show PVs F G1 σ [v] [p] from ⟨pv, trivial⟩) P
  | ex c p s1 => rw [hm] at P; exact P
  | bad => rw [hm] at P; exact P
theorem chain2 {o : Op} {a b : X} {σ : L2.St} {H : Hp} {Q : VK} (h : denE K CA W (evX E (.op o (.cons a (.cons b .nil)))) σ H Q) : denP K CA W (evP E a) σ H fun x H1 => denP K CA W (evP E b) σ H1 fun y H2 => rOp K CA o [x, y] H2 Q := by
  obtain ⟨F, G, s, hK, hC, R, P⟩ := h
  refine ⟨F, G, s, hK, hC, R, ?_⟩
  have P : PostE F G σ W Q ((((evP E a s).bind fun p s1 => ((evP E b s1).bind fun p2 s2 => (Out.ok [] s2 : Out (List PV)).bind fun ps s3 => .ok (p2 :: ps) s3).bind fun ps s2 => .ok (p :: ps) s2)).bind fun ps s1 => .opt s1 ((s1.looks ps).bind (opSem o))) := P
  cases hm : evP E a s with
  | ok p s1 =>
    rw [hm] at P
    refine fun v G1 H1 x1 R1 pv => ⟨F, G1, s1, hK, hC, R1, ?_⟩
    have P : PostE F G σ W Q (((((evP E b s1).bind fun p2 s2 => (Out.ok [] s2 : Out (List PV)).bind fun ps s3 => .ok (p2 :: ps) s3).bind fun ps s2 => .ok (p :: ps) s2)).bind fun ps s1 => .opt s1 ((s1.looks ps).bind (opSem o))) := P
    cases hm2 : evP E b s1 with
    | ok p2 s2 =>
      rw [hm2] at P
      exact fun w G2 H2 x2 R2 pv2 => op_last hK hC (x1.trans x2) R2 (show PVs F G2 σ [v, w] [p, p2] from ⟨pv.mono x2, pv2, trivial⟩) P
    | ex c p s1 => rw [hm2] at P; exact exW.mono x1 P
    | bad => rw [hm2] at P; exact P
  | ex c p s1 => rw [hm] at P; exact P
  | bad => rw [hm] at P; exact P
theorem chain3 {o : Op} {a b c : X} {σ : L2.St} {H : Hp} {Q : VK} (h : denE K CA W (evX E (.op o (.cons a (.cons b (.cons c .nil))))) σ H Q) :
    denP K CA W (evP E a) σ H fun x H1 => denP K CA W (evP E b) σ H1 fun y H2 => denP K CA W (evP E c) σ H2 fun z H3 => rOp K CA o [x, y, z] H3 Q := by
  obtain ⟨F, G, s, hK, hC, R, P⟩ := h
  refine ⟨F, G, s, hK, hC, R, ?_⟩
  have P : PostE F G σ W Q ((((evP E a s).bind fun p s1 => ((evP E b s1).bind fun p2 s2 => ((evP E c s2).bind fun p3 s3 => (Out.ok [] s3 : Out (List PV)).bind fun ps s4 => .ok (p3 :: ps) s4).bind fun ps s3 => .ok (p2 :: ps) s3).bind fun ps s2 => .ok (p :: ps) s2)).bind fun ps s1 => .opt s1 ((s1.looks ps).bind (opSem o))) := P
  cases hm : evP E a s with
  | ok p s1 =>
    rw [hm] at P
    refine fun v G1 H1 x1 R1 pv => ⟨F, G1, s1, hK, hC, R1, ?_⟩
    have P : PostE F G σ W Q (((((evP E b s1).bind fun p2 s2 => ((evP E c s2).bind fun p3 s3 => (Out.ok [] s3 : Out (List PV)).bind fun ps s4 => .ok (p3 :: ps) s4).bind fun ps s3 => .ok (p2 :: ps) s3).bind fun ps s2 => .ok (p :: ps) s2)).bind fun ps s1 => .opt s1 ((s1.looks ps).bind (opSem o))) := P
    cases hm2 : evP E b s1 with
    | ok p2 s2 =>
      rw [hm2] at P
      refine fun w G2 H2 x2 R2 pv2 => ⟨F, G2, s2, hK, hC, R2, ?_⟩
      have P : PostE F G σ W Q ((((((evP E c s2).bind fun p3 s3 => (Out.ok [] s3 : Out (List PV)).bind fun ps s4 => .ok (p3 :: ps) s4).bind fun ps s3 => .ok (p2 :: ps) s3).bind fun ps s2 => .ok (p :: ps) s2)).bind fun ps s1 => .opt s1 ((s1.looks ps).bind (opSem o))) := P
      cases hm3 : evP E c s2 with
      | ok p3 s3 =>
        rw [hm3] at P
        exact fun u G3 H3 x3 R3 pv3 => op_last hK hC ((x1.trans x2).trans x3) R3 (show PVs F G3 σ [v, w, u] [p, p2, p3] from ⟨(pv.mono x2).mono x3, pv2.mono x3, pv3, trivial⟩) P
      | ex c p s1 => rw [hm3] at P; exact exW.mono (x1.trans x2) P
      | bad => rw [hm3] at P; exact P
    | ex c p s1 => rw [hm2] at P; exact exW.mono x1 P
    | bad => rw [hm2] at P; exact P
  | ex c p s1 => rw [hm] at P; exact P
  | bad => rw [hm] at P; exact P
theorem chainN {o : Op} {xs : XS} {σ : L2.St} {H : Hp} {Q : VK} (h : denE K CA W (evX E (.op o xs)) σ H Q) : tCB (rOp K CA o) (denPs K CA W (evPs E xs)) σ H Q := by
  obtain ⟨F, G, s, hK, hC, R, P⟩ := h
  refine ⟨F, G, s, hK, hC, R, ?_⟩
  have P : PostE F G σ W Q ((evPs E xs s).bind fun ps s1 => .opt s1 ((s1.looks ps).bind (opSem o))) := P
  cases hm : evPs E xs s with
  | ok p s1 =>
    rw [hm] at P
    exact fun v G1 H1 x1 R1 pv => op_last hK hC x1 R1 pv P
  | ex c p s1 => rw [hm] at P; exact P
  | bad => rw [hm] at P; exact P
end
end Den
set_option Elab.async false
set_option linter.all false
set_option maxRecDepth 100000
set_option autoImplicit false
set_option maxHeartbeats 4000000
namespace Den
open PySem PySem.Spec PyProof.Rows L2
/-! ### calls of defs -/
section
variable (K : PySem.W.Frag) (CA : Nat → Option Addr)
def ArgsOk (B H : Hp) : List V → List Arg → List Addr → Prop
  | [], [], [] => True
  | v :: vs, .val d :: as, rs => Rep K CA B v d ∧ ArgsOk B H vs as rs
  | v :: vs, .bor d :: as, r :: rs => (v = .ref r ∧ One K CA B H r d ∧ B r = none) ∧ ArgsOk B H vs as rs
  | _, _, _ => False
structure After (B H : Hp) (rs : List Addr) (G' H' : Hp) (bs : List D) : Prop where
  bg : Ex B G'
  gh : Ex G' H'
  keep : ∀ a o, a ∉ rs → H a = some o → H' a = some o
  new : ∀ a, G' a ≠ none → B a ≠ none ∨ H a = none
  blen : bs.length = rs.length
  bors : ∀ (k : Nat) (p : Addr) (d : D), rs[k]? = some p → bs[k]? = some d → One K CA G' H' p d ∧ G' p = none
def ResF (H G' H' : Hp) (x : V) : SV → Prop
  | .shr d => Rep K CA G' x d
  | .own d => ∃ p, x = .ref p ∧ One K CA G' H' p d ∧ G' p = none ∧ H p = none
  | .bor _ => False
inductive ExcF (G H : Hp) (c : Nat) (p : List (Str × D)) : Value → Option Addr → Prop
  | non {C : Addr} : CA c = some C → p = [] → ExcF G H c p (.ref C) none
  | dict {C dx : Addr} {fs : List (Str × V)} : CA c = some C → G dx = some (.xd fs) → fs.map (·.1) = p.map (·.1) → Reps K CA G (fs.map (·.2)) (p.map (·.2)) → p ≠ [] → ExcF G H c p (.ref C) (some dx)
def EndF (B H : Hp) (rs : List Addr) (Q : VK) (E : XK) : OF → Prop
  | .ret v bs => ∀ x G' H', After K CA B H rs G' H' bs → ResF K CA H G' H' x v → Q x H'
  | .ex c p bs => ∀ cls d G' H', After K CA B H rs G' H' bs → ExcF K CA G' H' c p cls d → E cls d H'
  | .bad => False
def spF (g : List Arg → OF) : Sp := fun vs H Q E => ∃ B as rs, Ex B H ∧ rs.Nodup ∧ ArgsOk K CA B H vs as rs ∧ EndF K CA B H rs Q E (g as)
end
section
variable {F : Fr} {G H G' H' : Hp} {σ : L2.St} {s s' s1 : S}
/-- an operand that may be changed, at that slot -/
def MutAt (F : Fr) (G H : Hp) (σ : L2.St) (s : S) (i : Nat) (a : Addr) : Prop := σ[i]? = some (some (.ref a)) ∧ (∃ y, s.env[i]? = some (some y) ∧ y.mutb = true) ∧ G a = none
def ArgsPre (F : Fr) (G H : Hp) (σ : L2.St) (s : S) : List Bool → List PV → List V → List Arg → List Addr → Prop
  | [], [], [], [], [] => True
  | false :: ms, p :: ps, v :: vs, .val d :: as, rs => (s.look p = some d ∧ (Rep F.K F.CA G v d ∨ ∃ i a, p = .at i ∧ v = .ref a ∧ MutAt F G H σ s i a ∧ One F.K F.CA G H a d)) ∧ ArgsPre F G H σ s ms ps vs as rs
  | true :: ms, .at i :: ps, v :: vs, .bor d :: as, r :: rs => (v = .ref r ∧ MutAt F G H σ s i r ∧ One F.K F.CA G H r d) ∧ ArgsPre F G H σ s ms ps vs as rs
  | _, _, _, _, _ => False
theorem mut_slot (R : RS F G H σ s) {i : Nat} {v : V} {d : D} (h : σ[i]? = some (some v)) (m : s.mutb i = true) (e : s.look (.at i) = some d) : ∃ a, v = .ref a ∧ MutAt F G H σ s i a ∧ One F.K F.CA G H a d := by
  have e : (s.slot i).bind s.data = some d := e
  unfold S.mutb at m
  split at m
  · rename_i d' hs
    rw [hs] at e
    cases e
    obtain ⟨v', e1, p, rfl, o, n, z⟩ := R.slots i _ (slot_env hs)
    rw [h] at e1
    cases e1
    exact ⟨p, rfl, ⟨h, ⟨_, slot_env hs, rfl⟩, n⟩, o⟩
  · rename_i k hs
    rw [hs] at e
    obtain ⟨v', e1, p, e2, rfl⟩ := R.slots i _ (slot_env hs)
    rw [h] at e1
    cases e1
    obtain ⟨o, n⟩ := R.bors k p d e2 e
    exact ⟨p, rfl, ⟨h, ⟨_, slot_env hs, rfl⟩, n⟩, o⟩
  · cases m
theorem val_pre (R : RS F G H σ s) {v : V} {p : PV} {d : D} (h : PVOk F G σ v p) (e : s.look p = some d) : Rep F.K F.CA G v d ∨ ∃ i a, (p = .at i ∧ v = .ref a ∧ MutAt F G H σ s i a ∧ One F.K F.CA G H a d) ∨ (∃ k, p = .br k) := by
  cases p with
  | val d' => cases e; exact .inl h
  | br k => exact .inr ⟨0, 0, .inr ⟨k, rfl⟩⟩
  | «at» i =>
    have e' : (s.slot i).bind s.data = some d := e
    cases hs : s.slot i with
    | none => rw [hs] at e'; cases e'
    | some x =>
      cases hm : x.mutb with
      | false =>
        cases x with
        | shr d' =>
          rw [hs] at e'
          cases e'
          obtain ⟨v', e1, sl⟩ := R.slots i _ (slot_env hs)
          have h' : σ[i]? = some (some v) := h
          rw [h'] at e1
          cases e1
          exact .inl sl
        | own d' => cases hm
        | bor k => cases hm
      | true =>
        have m : s.mutb i = true := by
          unfold S.mutb
          rw [hs]
          cases x with
          | shr d' => cases hm
          | own d' => rfl
          | bor k => rfl
        obtain ⟨a, e1, e2, e3⟩ := mut_slot R h m e
        exact .inr ⟨i, a, .inl ⟨rfl, e1, e2, e3⟩⟩
theorem args_pre (R : RS F G H σ s) : ∀ {ms : List Bool} {ps : List PV} {vs : List V} {as : List Arg}, (∀ p ∈ ps, ∀ k, p ≠ .br k) → PVs F G σ vs ps → s.args ms ps = some as →
    ∃ rs, ArgsPre F G H σ s ms ps vs as rs ∧ rs.length = (borPs ms ps).length ∧ ∀ (k i : Nat) (r : Addr), (borPs ms ps)[k]? = some i → rs[k]? = some r → MutAt F G H σ s i r
  | [], [], vs, as, _, pv, e => by
    unfold S.args at e
    cases e
    cases vs with
    | nil => exact ⟨[], trivial, rfl, fun k i r h => by simp [borPs] at h⟩
    | cons _ _ => exact pv.elim
  | false :: ms, p :: ps, vs, as, nb, pv, e => by
    cases vs with
    | nil => exact pv.elim
    | cons v vs =>
      unfold S.args at e
      cases hl : s.look p with
      | none => rw [hl] at e; cases e
      | some d =>
        rw [hl] at e
        cases ha : s.args ms ps with
        | none => rw [ha] at e; cases e
        | some as' =>
          rw [ha] at e
          cases e
          obtain ⟨rs, h1, h2, h3⟩ := args_pre R (fun p hp => nb p (List.mem_cons_of_mem _ hp)) pv.2 ha
          refine ⟨rs, ⟨⟨hl, ?_⟩, h1⟩, ?_, ?_⟩
          · rcases val_pre R pv.1 hl with h | ⟨i, a, h | ⟨k, hk⟩⟩
            · exact .inl h
            · exact .inr ⟨i, a, h⟩
            · exact absurd hk (nb p List.mem_cons_self k)
          · rw [h2]; cases p <;> rfl
          · have : borPs (false :: ms) (p :: ps) = borPs ms ps := by cases p <;> rfl
            rw [this]
            exact h3
  | true :: ms, .at i :: ps, vs, as, nb, pv, e => by
    cases vs with
    | nil => exact pv.elim
    | cons v vs =>
      unfold S.args at e
      split at e
      · rename_i hm
        cases hl : s.look (.at i) with
        | none => rw [hl] at e; cases e
        | some d =>
          rw [hl] at e
          cases ha : s.args ms ps with
          | none => rw [ha] at e; cases e
          | some as' =>
            rw [ha] at e
            cases e
            obtain ⟨rs, h1, h2, h3⟩ := args_pre R (fun p hp => nb p (List.mem_cons_of_mem _ hp)) pv.2 ha
            obtain ⟨a, e1, e2, e3⟩ := mut_slot R pv.1 hm hl
            refine ⟨a :: rs, ⟨⟨e1, e2, e3⟩, h1⟩, by simp [borPs, h2], fun k j r q1 q2 => ?_⟩
            cases k with
            | zero => cases q1; cases q2; exact e2
            | succ k => exact h3 k j r q1 q2
      · cases e
  | true :: ms, .val _ :: ps, vs, as, _, _, e => by unfold S.args at e; cases e
  | true :: ms, .br _ :: ps, vs, as, _, _, e => by unfold S.args at e; cases e
  | [], _ :: _, _, _, _, _, e => by unfold S.args at e; cases e
  | false :: _, [], _, _, _, _, e => by unfold S.args at e; cases e
  | true :: _, [], _, _, _, _, e => by unfold S.args at e; cases e
/-- the callee's shared world: all operands that are not lent -/
theorem peek_world (R : RS F G H σ s) : ∀ {ms : List Bool} {ps : List PV} {vs : List V} {as : List Arg} {rs : List Addr}, ArgsPre F G H σ s ms ps vs as rs →
    ∃ B, Ex G B ∧ Ex B H ∧ (∀ a, B a ≠ none → G a ≠ none ∨ ∃ i ∈ atsOf (valPs ms ps), MutAt F G H σ s i a) ∧ ((∀ r ∈ rs, B r = none) → ArgsOk F.K F.CA B H vs as rs)
  | [], [], vs, as, rs, h => by
    cases vs with
    | cons _ _ => exact h.elim
    | nil => cases as with
      | cons _ _ => exact h.elim
      | nil => cases rs with
        | cons _ _ => exact h.elim
        | nil => exact ⟨G, Evl.Ex.refl _, R.gh, fun _ h => .inl h, fun _ => trivial⟩
  | false :: ms, p :: ps, v :: vs, .val d :: as, rs, ⟨⟨_, h⟩, t⟩ => by
    obtain ⟨B, x1, x2, nw, k⟩ := peek_world R t
    have hv : ∀ i, i ∈ atsOf (valPs ms ps) → i ∈ atsOf (valPs (false :: ms) (p :: ps)) := fun i hi => by
      cases p with
      | val d => exact hi
      | «at» j => exact List.mem_cons_of_mem _ hi
      | br k => exact hi
    rcases h with h | ⟨i, a, rfl, rfl, m, o⟩
    · exact ⟨B, x1, x2, fun a ha => (nw a ha).imp id fun ⟨i, h1, h2⟩ => ⟨i, hv i h1, h2⟩, fun hr => ⟨h.mono x1, k hr⟩⟩
    · cases hB : B a with
      | some u =>
        have hu := x2 _ _ hB
        have hr : Rep F.K F.CA B (.ref a) d := by
          cases o with
          | lst e r => rw [e] at hu; cases hu; exact .lst hB (r.mono x1)
          | dic e r => rw [e] at hu; cases hu; exact .dic hB (r.mono x1)
          | obj c e r => rw [e] at hu; cases hu; exact .obj c hB (r.mono x1)
        exact ⟨B, x1, x2, fun a ha => (nw a ha).imp id fun ⟨i, h1, h2⟩ => ⟨i, hv i h1, h2⟩, fun h => ⟨hr, k h⟩⟩
      | none =>
        obtain ⟨u, hu, hr⟩ := (o.mono x1 fun _ q => q).freeze hB
        refine ⟨upd B a u, x1.trans (Evl.Ex.new hB), Ex.upd_both x2 hu, fun b hb => ?_, fun h => ⟨hr, ?_⟩⟩
        · by_cases e : b = a
          · subst e
            exact .inr ⟨i, List.mem_cons_self, m⟩
          · rw [upd_ne e] at hb
            exact (nw b hb).imp id fun ⟨i, h1, h2⟩ => ⟨i, hv i h1, h2⟩
        · have hrs : ∀ r ∈ rs, B r = none := fun r hr => by
            have := h r hr
            by_cases e : r = a
            · subst e; exact hB
            · rw [upd_ne e] at this; exact this
          have ho := k hrs
          have hne : ∀ r ∈ rs, r ≠ a := fun r hr e => by
            have := h r hr
            rw [e, upd_same] at this
            cases this
          -- the larger world
          have up : ∀ {vs : List V} {as : List Arg} {rs : List Addr}, (∀ r ∈ rs, r ≠ a) → ArgsOk F.K F.CA B H vs as rs → ArgsOk F.K F.CA (upd B a u) H vs as rs := by
            intro vs
            induction vs with
            | nil => intro as rs hn h; cases as <;> cases rs <;> first | trivial | exact h.elim
            | cons v vs ih =>
              intro as rs hn h
              cases as with
              | nil => exact h.elim
              | cons x as =>
                cases x with
                | val d => exact ⟨h.1.mono (Evl.Ex.new hB), ih hn h.2⟩
                | bor d =>
                  cases rs with
                  | nil => exact h.elim
                  | cons r rs =>
                    obtain ⟨⟨e1, e2, e3⟩, h2⟩ := h
                    exact ⟨⟨e1, e2.mono (Evl.Ex.new hB) fun _ q => q, by rw [upd_ne (hn r List.mem_cons_self)]; exact e3⟩, ih (fun r hr => hn r (List.mem_cons_of_mem _ hr)) h2⟩
          exact up hne ho
  | true :: ms, .at i :: ps, v :: vs, .bor d :: as, r :: rs, ⟨⟨h1, h2, h3⟩, t⟩ => by
    obtain ⟨B, x1, x2, nw, k⟩ := peek_world R t
    exact ⟨B, x1, x2, nw, fun hr => ⟨⟨h1, h3.mono x1 fun _ q => q, hr r List.mem_cons_self⟩, k fun r hr' => hr r (List.mem_cons_of_mem _ hr')⟩⟩
  | [], _ :: _, _, _, _, h => by simp [ArgsPre] at h
  | true :: _, .val _ :: _, _, _, _, h => by simp [ArgsPre] at h
  | true :: _, .br _ :: _, _, _, _, h => by simp [ArgsPre] at h
  | false :: _, [], _, _, _, h => by simp [ArgsPre] at h
  | true :: _, [], _, _, _, h => by simp [ArgsPre] at h
  | false :: _, _ :: _, [], _, _, h => by simp [ArgsPre] at h
  | false :: _, _ :: _, _ :: _, [], _, h => by simp [ArgsPre] at h
  | false :: _, _ :: _, _ :: _, .bor _ :: _, _, h => by simp [ArgsPre] at h
  | true :: _, .at _ :: _, [], _, _, h => by simp [ArgsPre] at h
  | true :: _, .at _ :: _, _ :: _, [], _, h => by simp [ArgsPre] at h
  | true :: _, .at _ :: _, _ :: _, .val _ :: _, _, h => by simp [ArgsPre] at h
  | true :: _, .at _ :: _, _ :: _, .bor _ :: _, [], h => by simp [ArgsPre] at h
/-- what was lent comes back -/
theorem RS.stores {G2 : Hp} : ∀ {is : List Nat} {rs : List Addr} {bs : List D} {Hk : Hp} {s s1 : S}, RS F G2 Hk σ s → s.stores is bs = some s1 → is.length = rs.length → (∀ (k i : Nat) (r : Addr), is[k]? = some i → rs[k]? = some r → σ[i]? = some (some (.ref r))) →
    (∀ (k : Nat) (r : Addr) (d : D), rs[k]? = some r → bs[k]? = some d → One F.K F.CA G2 H' r d) → RS F G2 (fun a => if a ∈ rs then H' a else Hk a) σ s1
  | [], rs, bs, Hk, s, s1, R, e, hl, _, _ => by
    cases rs with
    | cons _ _ => cases hl
    | nil =>
      cases bs with
      | cons _ _ => unfold S.stores at e; cases e
      | nil =>
        unfold S.stores at e
        cases e
        have : (fun a => if a ∈ ([] : List Addr) then H' a else Hk a) = Hk := by funext a; simp
        rw [this]
        exact R
  | i :: is, rs, bs, Hk, s, s1, R, e, hl, hi, ho => by
    cases rs with
    | nil => cases hl
    | cons r rs =>
      cases bs with
      | nil => unfold S.stores at e; cases e
      | cons d bs =>
        unfold S.stores at e
        cases hs : s.store i d with
        | none => rw [hs] at e; cases e
        | some s2 =>
          rw [hs] at e
          obtain ⟨p, e1, n, k⟩ := R.store hs
          have e2 := hi 0 i r rfl rfl
          rw [e1] at e2
          cases e2
          have o := ho 0 r d rfl rfl
          obtain ⟨u, hu⟩ := o.there
          have R2 := k u (o.mono (Evl.Ex.refl _) fun o q => by rw [hu] at q; cases q; exact upd_same)
          have := RS.stores R2 (show s2.stores is bs = some s1 from e) (by simpa using hl) (fun k i r a b => hi (k + 1) i r a b) (fun k r d a b => ho (k + 1) r d a b)
          have he : (fun a => if a ∈ rs then H' a else upd Hk r u a) = (fun a => if a ∈ r :: rs then H' a else Hk a) := by
            funext a
            by_cases h1 : a ∈ rs
            · rw [if_pos h1, if_pos (List.mem_cons_of_mem _ h1)]
            · rw [if_neg h1]
              by_cases h2 : a = r
              · subst h2
                rw [upd_same, if_pos List.mem_cons_self, hu]
              · rw [upd_ne h2, if_neg (by simp only [List.mem_cons, not_or]; exact ⟨h2, h1⟩)]
          rw [he] at this
          exact this
theorem flat1_any {K : PySem.W.Frag} {CA : Nat → Option Addr} {G G' H : Hp} {p : Addr} {d : D} (h : One K CA G H p d) (f : d.flat1 = true) : One K CA G' H p d := by
  have fl : ∀ {vs : List V} {ds : List D}, Reps K CA G vs ds → ds.all D.flat = true → Reps K CA G' vs ds := by
    intro vs
    induction vs with
    | nil => intro ds h _; cases h; exact .nil
    | cons v vs ih =>
      intro ds h f
      cases h with
      | cons r t =>
        rw [List.all_cons, Bool.and_eq_true] at f
        exact .cons (Rep.ofV (r.flatV f.1)) (ih t f.2)
  cases h with
  | lst e r => exact .lst e (fl r f)
  | dic e r => exact .dic e (fl r f)
  | obj c e r => exact .obj c e (fl r f)
/-- the state behind a call: G2 what is shared now -/
theorem RS.called {B G2 : Hp} {ms : List Bool} {ps : List PV} {rs : List Addr} {bs : List D} (R : RS F G H σ s) (hl : rs.length = (borPs ms ps).length) (hm : ∀ (k i : Nat) (r : Addr), (borPs ms ps)[k]? = some i → rs[k]? = some r → σ[i]? = some (some (.ref r)))
    (A : After F.K F.CA B H rs G' H' bs) (e : s.stores (borPs ms ps) bs = some s1) (x : Ex G G2) (x2 : Ex G2 H') (nw : ∀ a, G2 a ≠ none → G a ≠ none ∨ H a = none) (nr : ∀ r ∈ rs, G2 r = none)
    (ho : ∀ (k : Nat) (r : Addr) (d : D), rs[k]? = some r → bs[k]? = some d → One F.K F.CA G2 H' r d) : RS F G2 H' σ s1 := by
  have g : Grow G H G2 (fun a => if a ∈ rs then H a else H' a) := by
    refine ⟨x, fun a o h => ?_, fun a o h => ?_, nw⟩
    · by_cases m : a ∈ rs
      · rw [if_pos m]; exact h
      · rw [if_neg m]; exact A.keep a o m h
    · by_cases m : a ∈ rs
      · rw [nr a m] at h; cases h
      · rw [if_neg m]; exact x2 a o h
  have := RS.stores (H' := H') (R.grow g) e hl.symm hm ho
  have he : (fun a => if a ∈ rs then H' a else (fun a => if a ∈ rs then H a else H' a) a) = H' := by
    funext a
    by_cases m : a ∈ rs
    · rw [if_pos m]
    · rw [if_neg m]; show (if a ∈ rs then H a else H' a) = H' a; rw [if_neg m]
  rw [he] at this
  exact this
theorem no_slot (R : RS F G H σ s) {p : Addr} (h : H p = none) (i : Nat) (y : SV) (e1 : s.env[i]? = some (some y)) (e2 : y.mutb = true) : σ[i]? ≠ some (some (.ref p)) := by
  intro q
  obtain ⟨v, e3, sl⟩ := R.slots i y e1
  rw [e3] at q
  cases q
  cases y with
  | shr d => cases e2
  | own d =>
    obtain ⟨p', e4, o4, _⟩ := sl
    cases e4
    obtain ⟨u, hu⟩ := o4.there
    rw [h] at hu; cases hu
  | bor k =>
    obtain ⟨p', e4, e5⟩ := sl
    cases e5
    obtain ⟨d, o4, _⟩ := R.brs (List.mem_of_getElem? e4)
    obtain ⟨u, hu⟩ := o4.there
    rw [h] at hu; cases hu
theorem store_env {i j : Nat} {d : D} {y : SV} (h : s.store i d = some s1) (e : s1.env[j]? = some (some y)) (m : y.mutb = true) : ∃ y', s.env[j]? = some (some y') ∧ y'.mutb = true := by
  unfold S.store at h
  split at h
  · rename_i d0 hs
    cases h
    have he := slot_env hs
    by_cases hj : i = j
    · subst hj; exact ⟨_, he, rfl⟩
    · have e : (s.env.set i (some (.own d)))[j]? = some (some y) := e
      rw [List.getElem?_set_ne hj] at e
      exact ⟨y, e, m⟩
  · cases h; exact ⟨y, e, m⟩
  · cases h
theorem stores_env : ∀ {is : List Nat} {bs : List D} {s s1 : S} {j : Nat} {y : SV}, s.stores is bs = some s1 → s1.env[j]? = some (some y) → y.mutb = true → ∃ y', s.env[j]? = some (some y') ∧ y'.mutb = true
  | [], [], s, s1, j, y, h, e, m => by unfold S.stores at h; cases h; exact ⟨y, e, m⟩
  | i :: is, d :: bs, s, s1, j, y, h, e, m => by
    unfold S.stores at h
    cases hs : s.store i d with
    | none => rw [hs] at h; cases h
    | some s2 =>
      rw [hs] at h
      obtain ⟨y', e1, m1⟩ := stores_env (show s2.stores is bs = some s1 from h) e m
      exact store_env hs e1 m1
  | [], _ :: _, _, _, _, _, h, _, _ => by unfold S.stores at h; cases h
  | _ :: _, [], _, _, _, _, h, _, _ => by unfold S.stores at h; cases h
theorem args_moved {G1 : Hp} (x : Ex G G1) : ∀ {ms : List Bool} {ps : List PV} {vs : List V} {as : List Arg} {rs : List Addr}, ArgsPre F G H σ s ms ps vs as rs →
    (∀ i ∈ atsOf (valPs ms ps), ∃ d v, σ[i]? = some (some v) ∧ s.look (.at i) = some d ∧ Rep F.K F.CA G1 v d) → (∀ r ∈ rs, G1 r = none) → ArgsOk F.K F.CA G1 H vs as rs
  | [], [], vs, as, rs, h, _, _ => by
    cases vs with
    | cons _ _ => exact h.elim
    | nil => cases as with
      | cons _ _ => exact h.elim
      | nil => cases rs with
        | cons _ _ => exact h.elim
        | nil => trivial
  | false :: ms, p :: ps, v :: vs, .val d :: as, rs, ⟨⟨hl, h⟩, t⟩, hm, hr => by
    have hv : ∀ i, i ∈ atsOf (valPs ms ps) → i ∈ atsOf (valPs (false :: ms) (p :: ps)) := fun i hi => by
      cases p with
      | val d => exact hi
      | «at» j => exact List.mem_cons_of_mem _ hi
      | br k => exact hi
    refine ⟨?_, args_moved x t (fun i hi => hm i (hv i hi)) hr⟩
    rcases h with h | ⟨i, a, rfl, rfl, m, o⟩
    · exact h.mono x
    · obtain ⟨d', v', e1, e2, e3⟩ := hm i List.mem_cons_self
      rw [hl] at e2
      cases e2
      rw [m.1] at e1
      cases e1
      exact e3
  | true :: ms, .at i :: ps, v :: vs, .bor d :: as, r :: rs, ⟨⟨h1, h2, h3⟩, t⟩, hm, hr =>
    ⟨⟨h1, h3.mono x fun _ q => q, hr r List.mem_cons_self⟩, args_moved x t hm fun r hr' => hr r (List.mem_cons_of_mem _ hr')⟩
  | [], _ :: _, _, _, _, h, _, _ => by simp [ArgsPre] at h
  | true :: _, .val _ :: _, _, _, _, h, _, _ => by simp [ArgsPre] at h
  | true :: _, .br _ :: _, _, _, _, h, _, _ => by simp [ArgsPre] at h
  | false :: _, [], _, _, _, h, _, _ => by simp [ArgsPre] at h
  | true :: _, [], _, _, _, h, _, _ => by simp [ArgsPre] at h
  | false :: _, _ :: _, [], _, _, h, _, _ => by simp [ArgsPre] at h
  | false :: _, _ :: _, _ :: _, [], _, h, _, _ => by simp [ArgsPre] at h
  | false :: _, _ :: _, _ :: _, .bor _ :: _, _, h, _, _ => by simp [ArgsPre] at h
  | true :: _, .at _ :: _, [], _, _, h, _, _ => by simp [ArgsPre] at h
  | true :: _, .at _ :: _, _ :: _, [], _, h, _, _ => by simp [ArgsPre] at h
  | true :: _, .at _ :: _, _ :: _, .val _ :: _, _, h, _, _ => by simp [ArgsPre] at h
  | true :: _, .at _ :: _, _ :: _, .bor _ :: _, [], h, _, _ => by simp [ArgsPre] at h
theorem ExcF.ok {c : Nat} {p : List (Str × D)} {cls : Value} {d : Option Addr} (h : ExcF F.K F.CA G H c p cls d) : ExcOk F G H c p cls d := by
  cases h with
  | non a b => exact .non a b
  | dict a b c d e => exact .dict a b c d e
/-- f(..) -/
theorem call_ok {G0 : Hp} {E : Env} {W : WX} {Q : VK} {f : Nat} {ms : List Bool} {ps : List PV} {vs : List V} (R : RS F G H σ s) (x0 : Ex G0 G) (pv : PVs F G σ vs ps) (nb : ∀ p ∈ ps, ∀ k, p ≠ .br k) (h : PostE F G0 σ W Q (callRun E f ms ps s)) :
    spF F.K F.CA (E.cl f) vs H Q (WE W σ) := by
  unfold callRun at h
  cases ha : s.args ms ps with
  | none => rw [ha] at h; exact h.elim
  | some as =>
    rw [ha] at h
    simp only at h
    split at h
    · rename_i hck
      rw [Bool.and_eq_true, decide_eq_true_eq, List.all_eq_true] at hck
      obtain ⟨hnd, hdj⟩ := hck
      obtain ⟨rs, pre, hlen, hmut⟩ := args_pre R nb pv ha
      have hadr : ∀ (k i : Nat) (r : Addr), (borPs ms ps)[k]? = some i → rs[k]? = some r → σ[i]? = some (some (.ref r)) := fun k i r a b => (hmut k i r a b).1
      have hof : ∀ r ∈ rs, ∃ i, i ∈ borPs ms ps ∧ MutAt F G H σ s i r := fun r hr => by
        obtain ⟨k, hk, e⟩ := List.mem_iff_getElem.mp hr
        have hk' : k < (borPs ms ps).length := by rw [← hlen]; exact hk
        exact ⟨_, List.getElem_mem hk', hmut k _ r (List.getElem?_eq_getElem hk') (by rw [List.getElem?_eq_getElem hk, e])⟩
      have hinj : ∀ i j r, MutAt F G H σ s i r → MutAt F G H σ s j r → i = j := fun i j r ⟨a1, ⟨y, a2, a3⟩, _⟩ ⟨b1, ⟨z, b2, b3⟩, _⟩ => R.inj i j y z a2 b2 a3 b3 (by rw [a1, b1])
      have hrn : rs.Nodup := by
        rw [List.nodup_iff_pairwise_ne, List.pairwise_iff_getElem]
        intro j k hj hk hjk e
        have hj' : j < (borPs ms ps).length := by rw [← hlen]; exact hj
        have hk' : k < (borPs ms ps).length := by rw [← hlen]; exact hk
        have m1 := hmut j _ rs[j] (List.getElem?_eq_getElem hj') (List.getElem?_eq_getElem hj)
        have m2 := hmut k _ rs[k] (List.getElem?_eq_getElem hk') (List.getElem?_eq_getElem hk)
        rw [← e] at m2
        have := (List.getElem_inj hnd).mp (hinj _ _ _ m1 m2)
        omega
      have hapart : ∀ i ∈ atsOf (valPs ms ps), ∀ r ∈ rs, ¬ MutAt F G H σ s i r := fun i hi r hr m => by
        obtain ⟨j, hj, m2⟩ := hof r hr
        have e := hinj i j r m m2
        subst e
        exact of_decide_eq_true (hdj i hi) hj
      have hGr : ∀ r ∈ rs, G r = none := fun r hr => (hof r hr).choose_spec.2.2.2
      have hGnot : ∀ {a : Addr} {o : HO}, G a = some o → a ∉ rs := fun {a o} h m => by rw [hGr a m] at h; cases h
      -- an end that leaves nothing shared behind
      have flatEnd : ∀ {B G' H' : Hp} {bs : List D} {s1 : S}, After F.K F.CA B H rs G' H' bs → bs.all D.flat1 = true → s.stores (borPs ms ps) bs = some s1 → RS F G H' σ s1 := fun {B G' H' bs s1} A hf hs => by
        refine RS.called R hlen hadr A hs (Evl.Ex.refl _) (fun a o h => A.keep a o (hGnot h) (R.gh a o h)) (fun _ h => .inl h) hGr fun k r d e1 e2 => flat1_any (A.bors k r d e1 e2).1 ?_
        exact List.all_eq_true.mp hf d (List.mem_of_getElem? e2)
      -- one that does
      have moveEnd : ∀ {s1 : S}, s.moves (valPs ms ps) = some s1 → ∃ G1, Ex G G1 ∧ RS F G1 H σ s1 ∧ ArgsOk F.K F.CA G1 H vs as rs ∧ ∀ {G' H' : Hp} {bs : List D} {s2 : S}, After F.K F.CA G1 H rs G' H' bs → s1.stores (borPs ms ps) bs = some s2 → RS F G' H' σ s2 := fun {s1} hmv => by
        obtain ⟨G1, x1, R1, hm, nw⟩ := R.moves hmv
        have hr1 : ∀ r ∈ rs, G1 r = none := fun r hr => by
          cases hq : G1 r with
          | none => rfl
          | some o =>
            rcases nw r (by rw [hq]; exact fun z => nomatch z) with z | ⟨i, hi, z1, z2⟩
            · exact absurd (hGr r hr) z
            · exact absurd ⟨z1, z2, hGr r hr⟩ (hapart i hi r hr)
        refine ⟨G1, x1, R1, args_moved x1 pre hm hr1, fun {G' H' bs s2} A hs => ?_⟩
        refine RS.called R1 hlen hadr A hs A.bg A.gh A.new (fun r hr => ?_) fun k r d e1 e2 => (A.bors k r d e1 e2).1
        obtain ⟨k, hk, e⟩ := List.mem_iff_getElem.mp hr
        have hk' : k < bs.length := by rw [A.blen]; exact hk
        exact (A.bors k r _ (by rw [List.getElem?_eq_getElem hk, e]) (List.getElem?_eq_getElem hk')).2
      obtain ⟨B, b1, b2, bnw, bok⟩ := peek_world R pre
      have hrB : ∀ r ∈ rs, B r = none := fun r hr => by
        cases hq : B r with
        | none => rfl
        | some o =>
          rcases bnw r (by rw [hq]; exact fun z => nomatch z) with z | ⟨i, hi, m⟩
          · exact absurd (hGr r hr) z
          · exact absurd m (hapart i hi r hr)
      split at h
      · -- a value
        rename_i v bs hret
        split at h
        · rename_i hf
          rw [Bool.and_eq_true] at hf
          split at h
          · exact h.elim
          · rename_i s1 hs
            refine ⟨B, as, rs, b2, hrn, bok hrB, ?_⟩
            rw [hret]
            intro x G' H' A rf
            have R1 := flatEnd A hf.2 hs
            refine h x G H' x0 R1 ?_
            cases v with
            | shr d => exact Res.shr (Rep.ofV (Rep.flatV rf hf.1))
            | own d =>
              obtain ⟨p, rfl, o, n, hn⟩ := rf
              refine ⟨⟨p, rfl, flat1_any o hf.1, gnone R.gh hn, R.h0 hn⟩, fun _ => (by intro z; cases z), fun _ i y e1 e2 => ?_⟩
              obtain ⟨y', e3, e4⟩ := stores_env hs e1 e2
              exact no_slot R hn i y' e3 e4
            | bor k => exact rf.elim
        · split at h
          · exact h.elim
          · rename_i s1 hmv
            split at h
            · exact h.elim
            · rename_i s2 hs
              obtain ⟨G1, x1, R1, ao, fin⟩ := moveEnd hmv
              refine ⟨G1, as, rs, R1.gh, hrn, ao, ?_⟩
              rw [hret]
              intro x G' H' A rf
              refine h x G' H' ((x0.trans x1).trans A.bg) (fin A hs) ?_
              cases v with
              | shr d => exact Res.shr rf
              | own d =>
                obtain ⟨p, rfl, o, n, hn⟩ := rf
                refine ⟨⟨p, rfl, o, n, R.h0 hn⟩, fun _ => (by intro z; cases z), fun _ i y e1 e2 => ?_⟩
                obtain ⟨y', e3, e4⟩ := stores_env hs e1 e2
                exact no_slot R1 hn i y' e3 e4
              | bor k => exact rf.elim
      · -- an exception
        rename_i c p bs hret
        split at h
        · rename_i hf
          rw [Bool.and_eq_true] at hf
          split at h
          · exact h.elim
          · rename_i s1 hs
            refine ⟨B, as, rs, b2, hrn, bok hrB, ?_⟩
            rw [hret]
            intro cls d G' H' A ef
            refine h G H' cls d x0 (flatEnd A hf.2 hs) ?_
            have : p = [] := by cases p with
              | nil => rfl
              | cons _ _ => cases hf.1
            subst this
            cases ef with
            | non a b => exact .non a b
            | dict a b c d e => exact absurd rfl e
        · split at h
          · exact h.elim
          · rename_i s1 hmv
            split at h
            · exact h.elim
            · rename_i s2 hs
              obtain ⟨G1, x1, R1, ao, fin⟩ := moveEnd hmv
              refine ⟨G1, as, rs, R1.gh, hrn, ao, ?_⟩
              rw [hret]
              intro cls d G' H' A ef
              exact h G' H' cls d ((x0.trans x1).trans A.bg) (fin A hs) ef.ok
      · exact h.elim
    · exact h.elim
end
end Den
set_option Elab.async false
set_option linter.all false
set_option maxRecDepth 100000
set_option autoImplicit false
set_option maxHeartbeats 4000000
namespace Den
open PySem PySem.Spec PyProof.Rows L2
/-! ### the text and the program's -/
structure Tab where
  fs : List FI
  bi : List Str
  cs : List (Str × D)
  exs : List Str
def okName (x : Str) : Bool := !(x == "__debug__") && !(x == "__classdict__") && !(x == "__name__")
def visB (sc : Scope) (x : Str) : Bool := okName x && (match sc.names.lookup x with | some .local => true | some .cell => true | some .free => true | _ => false)
def glB (sc : Scope) (x : Str) : Bool := okName x && decide (sc.names.lookup x = some .globalImplicit)
def plain : Expr → Bool
  | .Starred .. => false | .Slice .. => false | .Set .. => false | _ => true
def plainT : Expr → Bool
  | .UnaryOp .Not _ _ => false | .BoolOp .. => false | .IfExp .. => false | .Compare .. => false | _ => true
def bopOf : Op → Option Operator
  | .add => some .Add | .sub => some .Sub | .mul => some .Mult | .fdiv => some .FloorDiv | .mod => some .Mod | .pow => some .Pow | .band => some .BitAnd | .shr => some .RShift | _ => none
def copOf : Op → Option CmpOp
  | .eq => some .Eq | .ne => some .NotEq | .lt => some .Lt | .le => some .LtE | .gt => some .Gt | .ge => some .GtE | .isin => some .In | .notin => some .NotIn | _ => none
def fnOf : Op → Option Str
  | .len => some "len" | .int1 => some "int" | .str1 => some "str" | .tuple => some "tuple" | .list => some "list" | .sorted => some "sorted" | .all => some "all" | .any => some "any" | .sum => some "sum"
  | .max2 => some "max" | .min2 => some "min" | .divmod => some "divmod" | _ => none
/-- a receiver that is no bare call -/
def plainA : Expr → Bool
  | .Call _ [] [] _ => false | _ => true
def isTyName (t : Str) : Bool := t == "bool" || t == "int" || t == "str" || t == "tuple" || t == "list"
def BM.name : BM → Str
  | .index => "index"
def Mu.name : Mu → Str
  | .append => "append" | .reverse => "reverse" | .insert => "insert" | .pop => "pop" | .popat => "pop" | .extend => "extend" | .clear => "clear"
/-- the parts of an operation, and the global names that it leans on -/
def shape (o : Op) (e : Expr) : Option (List Str × List Expr) :=
  match bopOf o with
  | some b => match e with
    | .BinOp l p r _ => if p = b then some ([], [l, r]) else none
    | _ => none
  | none => match copOf o with
    | some c => match e with
      | .Compare l [p] [r] _ => if p = c then some ([], [l, r]) else none
      | _ => none
    | none => match fnOf o with
      | some f => match e with
        | .Call (.Name g _) (a :: as) [] _ => if g = f then some ([f], a :: as) else none
        | _ => none
      | none => match o with
        | .neg => match e with
          | .UnaryOp .USub a _ => some ([], [a])
          | _ => none
        | .isN => match e with
          | .Compare l [.Is] [.Constant .none _ _] _ => some ([], [l])
          | _ => none
        | .isnN => match e with
          | .Compare l [.IsNot] [.Constant .none _ _] _ => some ([], [l])
          | _ => none
        | .ix => match e with
          | .Subscript l r _ => some ([], [l, r])
          | _ => none
        | .sl false false => match e with
          | .Subscript l (.Slice none none none _) _ => some ([], [l])
          | _ => none
        | .sl true false => match e with
          | .Subscript l (.Slice (some r) none none _) _ => some ([], [l, r])
          | _ => none
        | .sl false true => match e with
          | .Subscript l (.Slice none (some r) none _) _ => some ([], [l, r])
          | _ => none
        | .rev => match e with
          | .Subscript l (.Slice none none (some (.UnaryOp .USub (.Constant (.int 1) _ _) _)) _) _ => some ([], [l])
          | _ => none
        | .isinst [t] => match e with
          | .Call (.Name f _) [l, .Name u _] [] _ => if f = "isinstance" ∧ t = u ∧ isTyName t = true then some ([f, t], [l]) else none
          | _ => none
        | _ => none
mutual
def chkTg (N : List Str) (sc : Scope) (fnb : Str → Bool) : Tg → Expr → Bool
  | .nm i, .Name x _ => okName x && decide (N[i]? = some x) && (decide (sc.names.lookup x = some .local) || (decide (sc.names.lookup x = some .cell) && fnb x))
  | .tup ts, .Tuple es _ _ => chkTgs N sc fnb ts es
  | _, _ => false
def chkTgs (N : List Str) (sc : Scope) (fnb : Str → Bool) : List Tg → List Expr → Bool
  | [], [] => true
  | t :: ts, e :: es => plain e && chkTg N sc fnb t e && chkTgs N sc fnb ts es
  | _, _ => false
end
def T.isTru : T → Bool
  | .tru => true | _ => false
mutual
def tgIn (is : List Nat) : Tg → Bool
  | .nm i => is.contains i
  | .tup ts => tgsIn is ts
def tgsIn (is : List Nat) : List Tg → Bool
  | [] => true
  | t :: ts => tgIn is t && tgsIn is ts
end
def isTup : Expr → Bool
  | .Tuple .. => true | _ => false
section
variable (Tb : Tab) (N : List Str)
def nameB (sc : Scope) (i : Nat) (x : Str) : Bool := visB sc x && decide (N[i]? = some x)
def glT (sc : Scope) (g : Str) : Bool := glB sc g && Tb.bi.contains g
mutual
def chkX (sc : Scope) : X → Expr → Bool
  | .var i, e => match e with
    | .Name x _ => nameB N sc i x
    | _ => false
  | .int i, e => match e with
    | .Constant (.int j) _ _ => decide (i = j)
    | _ => false
  | .str i, e => match e with
    | .Constant (.str j) _ _ => decide (i = j)
    | _ => false
  | .bl i, e => match e with
    | .Constant (.bool j) _ _ => decide (i = j)
    | _ => false
  | .non, e => match e with
    | .Constant .none _ _ => true
    | _ => false
  | .glo x d, e => match e with
    | .Name y _ => decide (x = y) && glB sc x && decide (Tb.cs.lookup x = some d)
    | _ => false
  | .op o xs, e => match shape o e with
    | some (gs, es) => gs.all (glT Tb sc) && chkXs sc xs es
    | none => false
  | .lst xs, e => match e with
    | .List es _ => chkXs sc xs es
    | _ => false
  | .tup xs, e => match e with
    | .Tuple es _ _ => chkXs sc xs es
    | _ => false
  | .cmp2 o p a b c, e => match e with
    | .Compare l [op, pp] [r, q] _ => decide (copOf o = some op) && decide (copOf p = some pp) && plain l && plain r && plain q && chkX sc a l && chkX sc b r && chkX sc c q
    | _ => false
  | .and a b, e => match e with
    | .BoolOp .And [v, w] _ => chkX sc a v && chkX sc b w
    | .BoolOp .And (v :: w :: u :: rest) pos => chkX sc a v && chkX sc b (.BoolOp .And (w :: u :: rest) pos)
    | _ => false
  | .or a b, e => match e with
    | .BoolOp .Or [v, w] _ => chkX sc a v && chkX sc b w
    | .BoolOp .Or (v :: w :: u :: rest) pos => chkX sc a v && chkX sc b (.BoolOp .Or (w :: u :: rest) pos)
    | _ => false
  | .not a, e => match e with
    | .UnaryOp .Not e _ => chkX sc a e
    | _ => false
  | .ite t a b, e => match e with
    | .IfExp c l r _ => chkT sc t c && chkX sc a l && chkX sc b r
    | _ => false
  | .sl3 a b c, e => match e with
    | .Subscript l (.Slice (some r) (some q) none _) _ => plain l && plain r && plain q && chkX sc a l && chkX sc b r && chkX sc c q
    | _ => false
  | .bm m o xs, e => match e with
    | .Call (.Attribute l mm ap) (a :: as) [] cp => decide (BM.name m = mm) && (ap.endLine == cp.line) && plainA l && decide (as.length < 20) && chkX sc o l && chkXs sc xs (a :: as)
    | _ => false
  | .call f ms xs, e => match e with
    | .Call (.Name x _) (e :: es) [] _ => (match Tb.fs[f]? with | some I => decide (I.name = x) && decide (I.ms = ms) | none => false) && glB sc x && chkXs sc xs (e :: es)
    | _ => false
  | .mut m i xs, e => match e with
    | .Call (.Attribute (.Name x _) mm ap) [] [] cp => decide (Mu.name m = mm) && (ap.endLine == cp.line) && nameB N sc i x && (match m with | .pop => true | .reverse => true | .clear => true | _ => false) && chkXs sc xs []
    | .Call (.Attribute (.Name x _) mm ap) (e :: es) [] cp => decide (Mu.name m = mm) && (ap.endLine == cp.line) && nameB N sc i x && (match m with | .pop => false | .reverse => false | .clear => false | _ => true) && decide (es.length < 20) && chkXs sc xs (e :: es)
    | _ => false
  | .comp own tg it t x, e => match e with
    | .ListComp elt [⟨tge, ite, [], 0⟩] scope _ => blkC N sc scope own && plain ite && chkIt sc it ite tge && chkTg N (relS scope sc) (fun x => scope.names.lookup x == some .cell) tg tge && decide (tgIn (own.map (·.2)) tg = true) && t.isTru && chkX (relS scope sc) x elt
    | .ListComp elt [⟨tge, ite, [c], 0⟩] scope _ => blkC N sc scope own && plain ite && chkIt sc it ite tge && chkTg N (relS scope sc) (fun x => scope.names.lookup x == some .cell) tg tge && decide (tgIn (own.map (·.2)) tg = true) && chkT (relS scope sc) t c && chkX (relS scope sc) x elt
    | _ => false
def chkXs (sc : Scope) : XS → List Expr → Bool
  | .nil, es => match es with
    | [] => true
    | _ => false
  | .cons x xs, es => match es with
    | e :: es => plain e && chkX sc x e && chkXs sc xs es
    | _ => false
def chkT (sc : Scope) : T → Expr → Bool
  | .tru, _ => false
  | .x e, f => plainT f && chkX sc e f
  | .isN n a, f => match f with
    | .Compare l [.Is] [.Constant .none _ _] _ => !n && chkX sc a l
    | .Compare l [.IsNot] [.Constant .none _ _] _ => n && chkX sc a l
    | _ => false
  | .cmp o a b, f => match f with
    | .Compare l [p] [r] _ => decide (copOf o = some p) && plain r && chkX sc a l && chkX sc b r
    | _ => false
  | .cmp2 o p a b c, f => match f with
    | .Compare l [op, pp] [r, q] _ => decide (copOf o = some op) && decide (copOf p = some pp) && plain r && plain q && chkX sc a l && chkX sc b r && chkX sc c q
    | _ => false
  | .and a b, f => match f with
    | .BoolOp .And [v, w] _ => chkT sc a v && chkT sc b w
    | .BoolOp .And (v :: w :: u :: rest) pos => chkT sc a v && chkT sc b (.BoolOp .And (w :: u :: rest) pos)
    | _ => false
  | .or a b, f => match f with
    | .BoolOp .Or [v, w] _ => chkT sc a v && chkT sc b w
    | .BoolOp .Or (v :: w :: u :: rest) pos => chkT sc a v && chkT sc b (.BoolOp .Or (w :: u :: rest) pos)
    | _ => false
  | .not a, f => match f with
    | .UnaryOp .Not e _ => chkT sc a e
    | _ => false
def chkIt (sc : Scope) : It → Expr → Expr → Bool
  | .seq x, e, _ => chkX sc x e
  | .rng x, e, _ => match e with
    | .Call (.Name f _) [a] [] _ => decide (f = "range") && glT Tb sc f && plain a && chkX sc x a
    | _ => false
  | .rng2 x y, e, _ => match e with
    | .Call (.Name f _) [a, b] [] _ => decide (f = "range") && glT Tb sc f && plain a && plain b && chkX sc x a && chkX sc y b
    | _ => false
  | .enum x, e, tg => match e with
    | .Call (.Name f _) [a] [] _ => decide (f = "enumerate") && glT Tb sc f && isTup tg && plain a && chkX sc x a
    | _ => false
  | .zip x y, e, tg => match e with
    | .Call (.Name f _) [a, b] [] _ => decide (f = "zip") && glT Tb sc f && isTup tg && plain a && plain b && chkX sc x a && chkX sc y b
    | _ => false
  | .rev x, e, _ => match e with
    | .Call (.Name f _) [a] [] _ => decide (f = "reversed") && glT Tb sc f && plain a && chkX sc x a
    | _ => false
end
end
end Den
set_option Elab.async false
set_option linter.all false
set_option maxRecDepth 100000
set_option autoImplicit false
set_option maxHeartbeats 4000000
namespace Den
open PySem PySem.Spec PyProof.Rows L2
/-! ### syntax -/
theorem star_of {e : Expr} (h : plain e = true) (es : List Expr) (env : PySem.Env) : starEach (e :: es) env = (false, eval e env) :: starEach es env := by
  cases e <;> first | rfl | (exact Bool.noConfusion h)
theorem behind_of {e : Expr} (h : plain e = true) (op : CmpOp) : behindInMarks op e = false := by
  cases e <;> first | rfl | (exact Bool.noConfusion h)
theorem last_of {a b : Expr} (h : plain b = true) (op op' : CmpOp) : lastMarks [op, op'] [a, b] = false := by
  cases b <;> first | (with_unfolding_all rfl) | (exact Bool.noConfusion h)
theorem ix_of {e : Expr} (h : plain e = true) : PlainIx e := fun _ _ => by
  cases e <;> first | rfl | (exact Bool.noConfusion h)
theorem folded_of {e : Expr} (h : plain e = true) (env : PySem.Env) (x : Value) : foldedSetIterable e env x = pure x := by
  cases e <;> first | rfl | (exact Bool.noConfusion h)
theorem true_of {e : Expr} (h : plainT e = true) (env : PySem.Env) (whole : Sem Value) : isTrue e env whole = (do let v ← whole; standAt e.pos; holding [v] (truthy v)) := by
  cases e with
  | UnaryOp op x pos => cases op <;> first | rfl | (exact Bool.noConfusion h)
  | BoolOp => exact Bool.noConfusion h
  | IfExp => exact Bool.noConfusion h
  | Compare => exact Bool.noConfusion h
  | _ => rfl
theorem attr_of {e : Expr} (h : plainA e = true) (x : Str) (env : PySem.Env) (w : Sem Value) : attributeBase e x env w = w := by
  cases e with
  | Call f as ks pos =>
    cases as with
    | cons _ _ => cases f <;> rfl
    | nil => cases ks with
      | nil => exact Bool.noConfusion h
      | cons _ _ => cases f <;> rfl
  | _ => rfl
/-- no star among them -/
def plains : List Expr → Bool
  | [] => true
  | e :: es => plain e && plains es
theorem any_of {pos : Pos} {env : PySem.Env} : ∀ {es : List Expr}, plains es = true → (backTo pos (starEach es env)).any (·.1) = false
  | [], _ => rfl
  | e :: es, h => by
    unfold plains at h
    rw [Bool.and_eq_true] at h
    rw [star_of h.1]
    show (false || (backTo pos (starEach es env)).any (·.1)) = false
    rw [any_of h.2]; rfl
theorem all_of {pos : Pos} {env : PySem.Env} : ∀ {es : List Expr}, plains es = true → (backTo pos (starEach es env)).all (fun x => !x.1) = true
  | [], _ => rfl
  | e :: es, h => by
    unfold plains at h
    rw [Bool.and_eq_true] at h
    rw [star_of h.1]
    show (true && (backTo pos (starEach es env)).all (fun x => !x.1)) = true
    rw [all_of h.2]; rfl
theorem okName_dbg {x : Str} (h : okName x = true) : (x == ("__debug__" : Str)) = false ∧ (x == ("__classdict__" : Str)) = false ∧ x ≠ "__name__" := by
  unfold okName at h
  simp only [Bool.and_eq_true, Bool.not_eq_true'] at h
  exact ⟨h.1.1, h.1.2, fun e => by rw [e] at h; exact absurd h.2 (by decide)⟩
/-! ### the context -/
structure TabOk (P : Program) (w : World) (K : PySem.W.Frag) (mg : Str → Option Value) (base : Heap) (Tb : Tab) (n : Nat) (E : Env) (CA : Nat → Option Addr) : Prop where
  fns : ∀ (f : Nat) (I : FI), Tb.fs[f]? = some I → My.FOk P w K mg base (L2.CX P w) I.name I.ps (2 * n) (spF K CA (E.cl f))
  bi : ∀ x, Tb.bi.contains x = true → mg x = none
  cs : ∀ x d, Tb.cs.lookup x = some d → ∃ v u, mg x = some u ∧ RelV v u ∧ d.v = some v
structure Ctx (X : Cx) (Tb : Tab) (N : List Str) (sc : Scope) (fnb : Str → Bool) (n : Nat) (E : Env) (CA : Nat → Option Addr) (W : WX) : Prop where
  hN : X.N = N
  nd : N.Nodup
  hsc : X.env.scope = sc
  calm : X.calm = true
  tk : Takes X W
  room : Room (2 * n) X.A
  hfn : ∀ x, X.fn x = fnb x
  tab : TabOk X.prog X.w X.K X.mg X.base Tb n E CA
section
variable {X : Cx} {Tb : Tab} {N : List Str} {sc : Scope} {fnb : Str → Bool} {n : Nat} {E : Env} {CA : Nat → Option Addr} {W : WX}
theorem Ctx.gl (C : Ctx X Tb N sc fnb n E CA W) {x : Str} (h : glB sc x = true) : Gl X x ∧ okName x = true := by
  unfold glB at h
  rw [Bool.and_eq_true, decide_eq_true_eq] at h
  exact ⟨by show X.env.scope.names.lookup x = some .globalImplicit; rw [C.hsc]; exact h.2, h.1⟩
theorem Ctx.glT (C : Ctx X Tb N sc fnb n E CA W) {x : Str} (h : glT Tb sc x = true) : Gl X x ∧ okName x = true ∧ X.mg x = none := by
  unfold Den.glT at h
  rw [Bool.and_eq_true] at h
  obtain ⟨a, b⟩ := C.gl h.1
  exact ⟨a, b, C.tab.bi x h.2⟩
theorem Ctx.vis (C : Ctx X Tb N sc fnb n E CA W) {i : Nat} {x : Str} (h : nameB N sc i x = true) : X.N[i]? = some x ∧ Vis X.env.scope x ∧ okName x = true := by
  unfold nameB visB at h
  rw [Bool.and_eq_true, Bool.and_eq_true, decide_eq_true_eq] at h
  refine ⟨by rw [C.hN]; exact h.2, ?_, h.1.1⟩
  rw [C.hsc]
  unfold Vis
  have := h.1.2
  split at this <;> first | (rename_i q; exact .inl q) | (rename_i q; exact .inr (.inl q)) | (rename_i q; exact .inr (.inr q)) | cases this
/-! ### expressions -/
theorem s_name (C : Ctx X Tb N sc fnb n E CA W) {i : Nat} {x : Str} {pos : Pos} (h : nameB N sc i x = true) : PE X (.Name x pos) (tVar i) := by
  obtain ⟨a, b, c⟩ := C.vis h
  obtain ⟨d1, d2, _⟩ := okName_dbg c
  exact pe_var a b d1 d2
theorem s_var (C : Ctx X Tb N sc fnb n E CA W) {i : Nat} {x : Str} {pos : Pos} (h : nameB N sc i x = true) : PE X (.Name x pos) (denE X.K CA W (evX E (.var i))) := by
  refine (s_name C h).imp fun σ H Q ⟨F, G, s, hK, hC, R, P⟩ => ?_
  have P : PostE F G σ W Q (match s.move i with | some (d, s1) => .ok (.shr d) s1 | none => .bad) := P
  cases hm : s.move i with
  | none => rw [hm] at P; exact P.elim
  | some p =>
    obtain ⟨d, s1⟩ := p
    rw [hm] at P
    obtain ⟨G', v, x1, R1, e1, r1⟩ := R.move hm
    exact ⟨v, e1, P v G' H x1 R1 (Res.shr r1)⟩
theorem den_c {d : D} {v : V} {m : S → Out SV} (hd : d.v = some v) (hm : ∀ s, m s = .ok (.shr d) s) {σ : L2.St} {H : Hp} {Q : VK} (h : denE X.K CA W m σ H Q) : tC v σ H Q := by
  obtain ⟨F, G, s, hK, hC, R, P⟩ := h
  rw [hm] at P
  exact P v G H (Evl.Ex.refl _) R (Res.shr (Rep.ofV hd))
theorem s_glo (C : Ctx X Tb N sc fnb n E CA W) {x : Str} {d : D} {pos : Pos} (h : glB sc x = true) (hl : Tb.cs.lookup x = some d) : PE X (.Name x pos) (denE X.K CA W (evX E (.glo x d))) := by
  obtain ⟨g, o⟩ := C.gl h
  obtain ⟨v, u, hm, r, hv⟩ := C.tab.cs x d hl
  exact (pe_glob g hm r (okName_dbg o).1).imp fun σ H Q h => den_c hv (fun _ => rfl) h
/-- an operand -/
theorem pe_p (C : Ctx X Tb N sc fnb n E CA W) {x : Den.X} {e : Expr} (hc : chkX Tb N sc x e = true) (h : PE X e (denE X.K CA W (evX E x))) : PE X e (denP X.K CA W (evP E x)) := by
  have gen : (∀ s, evP E x s = (evX E x s).bind fun v s1 => match v.d with | some d => .ok (.val d) s1 | none => .bad) → PE X e (denP X.K CA W (evP E x)) := fun he => by
    refine h.imp fun σ H Q ⟨F, G, s, hK, hC, R, P⟩ => ⟨F, G, s, hK, hC, R, ?_⟩
    rw [he] at P
    cases hm : evX E x s with
    | ok v s1 =>
      rw [hm] at P
      intro w G1 H1 x1 R1 res
      have P : PostP F G σ W Q (match v.d with | some d => .ok (.val d) s1 | none => .bad) := P
      cases hd : v.d with
      | none => rw [hd] at P; exact P.elim
      | some d =>
        rw [hd] at P
        obtain ⟨G2, x2, R2, r2⟩ := res.freeze R1 hd
        exact P w G2 H1 (x1.trans x2) R2 r2
    | ex c p s1 => rw [hm] at P; exact P
    | bad => rw [hm] at P; exact P
  cases x with
  | var i =>
    unfold chkX at hc
    split at hc
    · refine (s_name C hc).imp fun σ H Q ⟨F, G, s, hK, hC, R, P⟩ => ?_
      have P : PostP F G σ W Q (match s.slot i with | some _ => .ok (.at i) s | none => .bad) := P
      cases hs : s.slot i with
      | none => rw [hs] at P; exact P.elim
      | some y =>
        rw [hs] at P
        obtain ⟨v, e1, _⟩ := R.slots i y (slot_env hs)
        exact ⟨v, e1, P v G H (Evl.Ex.refl _) R e1⟩
    · cases hc
  | _ => exact gen fun _ => rfl
theorem op_bin (C : Ctx X Tb N sc fnb n E CA W) {o : Op} {p : Operator} {l r : Expr} {pos : Pos} {a b : Den.X} (ho : bopOf o = some p) (h1 : PE X l (denP X.K CA W (evP E a))) (h2 : PE X r (denP X.K CA W (evP E b))) :
    PE X (.BinOp l p r pos) (denE X.K CA W (evX E (.op o (.cons a (.cons b .nil))))) := by
  have fin : OpR X (binaryOp p) (fun x y => rOp X.K CA o [x, y]) → PE X (.BinOp l p r pos) (denE X.K CA W (evX E (.op o (.cons a (.cons b .nil))))) := fun rule => (pe_op rule h1 h2).imp fun σ H Q h => chain2 h
  cases o <;> first | (cases ho; done) | skip
  all_goals cases ho
  · exact fin o_add
  · exact fin o_sub
  · exact fin o_mul
  · exact fin o_fdiv
  · exact fin o_mod
  · exact fin o_pow
  · exact fin o_band
  · exact fin o_shr
theorem cmpR (C : Ctx X Tb N sc fnb n E CA W) {o : Op} {p : CmpOp} (ho : copOf o = some p) : OpR X (compareOp p) (fun x y => rOp X.K CA o [x, y]) := by
  cases o <;> first | (cases ho; done) | skip
  all_goals cases ho
  · exact o_eq C.room.units
  · exact o_ne C.room.units
  · exact o_lt C.room.units
  · exact o_le C.room.units
  · exact o_gt C.room.units
  · exact o_ge C.room.units
  · exact o_isin (by have := C.room.un; omega)
  · exact o_notin (by have := C.room.un; omega)
theorem op_cmp (C : Ctx X Tb N sc fnb n E CA W) {o : Op} {p : CmpOp} {l r : Expr} {pos : Pos} {a b : Den.X} (ho : copOf o = some p) (pr : plain r = true) (h1 : PE X l (denP X.K CA W (evP E a))) (h2 : PE X r (denP X.K CA W (evP E b))) :
    PE X (.Compare l [p] [r] pos) (denE X.K CA W (evX E (.op o (.cons a (.cons b .nil))))) :=
  (pe_cmpR (cmpR C ho) h1 h2 (behind_of pr p)).imp fun σ H Q h => chain2 h
theorem op_isN1 {l : Expr} {k : Nat} {pos pos' : Pos} {a : Den.X} (h1 : PE X l (denP X.K CA W (evP E a))) :
    PE X (.Compare l [.Is] [.Constant .none k pos'] pos) (denE X.K CA W (evX E (.op .isN (.cons a .nil)))) := by
  refine (pe_cmpR (o_isN (CA := CA)) h1 pe_non (by rfl)).imp fun σ H Q h => ?_
  obtain ⟨F, G, s, hK, hC, R, P⟩ := chain1 h
  refine ⟨F, G, s, hK, hC, R, ?_⟩
  cases hm : evP E a s with
  | ok p s1 => rw [hm] at P; exact fun v G1 H1 x1 R1 pv => ⟨rfl, P v G1 H1 x1 R1 pv⟩
  | ex c p s1 => rw [hm] at P; exact P
  | bad => rw [hm] at P; exact P
theorem op_isnN1 {l : Expr} {k : Nat} {pos pos' : Pos} {a : Den.X} (h1 : PE X l (denP X.K CA W (evP E a))) :
    PE X (.Compare l [.IsNot] [.Constant .none k pos'] pos) (denE X.K CA W (evX E (.op .isnN (.cons a .nil)))) := by
  refine (pe_cmpR (o_isnN (CA := CA)) h1 pe_non (by rfl)).imp fun σ H Q h => ?_
  obtain ⟨F, G, s, hK, hC, R, P⟩ := chain1 h
  refine ⟨F, G, s, hK, hC, R, ?_⟩
  cases hm : evP E a s with
  | ok p s1 => rw [hm] at P; exact fun v G1 H1 x1 R1 pv => ⟨rfl, P v G1 H1 x1 R1 pv⟩
  | ex c p s1 => rw [hm] at P; exact P
  | bad => rw [hm] at P; exact P
theorem b0_max : bootBuiltins "max" = some (.builtin "max") := by decide +kernel
theorem b0_min : bootBuiltins "min" = some (.builtin "min") := by decide +kernel
theorem b0_divmod : bootBuiltins "divmod" = some (.builtin "divmod") := by decide +kernel
theorem op_fn (C : Ctx X Tb N sc fnb n E CA W) {o : Op} {f : Str} {e : Expr} {es : List Expr} {p pos : Pos} {xs : XS} (ho : fnOf o = some f) (hg : glT Tb sc f = true) (pl : plains (e :: es) = true) (ha : PA X (e :: es) (denPs X.K CA W (evPs E xs))) :
    PE X (.Call (.Name f p) (e :: es) [] pos) (denE X.K CA W (evX E (.op o xs))) := by
  obtain ⟨g, ok, m⟩ := C.glT hg
  obtain ⟨d1, d2, d3⟩ := okName_dbg ok
  unfold plains at pl
  rw [Bool.and_eq_true] at pl
  have finB : ∀ {id : String}, CallR X (.builtin id) (rOp X.K CA o) → bootBuiltins f = some (.builtin id) → PE X (.Call (.Name f p) (e :: es) [] pos) (denE X.K CA W (evX E (.op o xs))) := fun r hb =>
    (pe_callB r g m hb ha d3 d1 (star_of pl.1 _ _) (any_of pl.2)).imp fun σ H Q h => chainN h
  have finT : ∀ {id : String}, CallR X (.type id) (rOp X.K CA o) → bootBuiltins f = some (.type id) → PE X (.Call (.Name f p) (e :: es) [] pos) (denE X.K CA W (evX E (.op o xs))) := fun r hb =>
    (pe_callTy r g m hb ha d3 d1 (star_of pl.1 _ _) (any_of pl.2)).imp fun σ H Q h => chainN h
  cases o <;> first | (cases ho; done) | skip
  all_goals cases ho
  · exact finB o_len My.b0_len
  · exact finT o_int1 My.b0_int
  · exact finT o_str1 My.b0_str
  · exact finT o_tuple My.b0_tuple
  · exact finT o_list My.b0_list
  · exact finB o_sorted My.b0_sorted
  · exact finB (o_all C.calm) My.b0_all
  · exact finB (o_any C.calm) My.b0_any
  · exact finB (o_sum C.calm) My.b0_sum
  · exact finB (o_max2 C.calm) b0_max
  · exact finB (o_min2 C.calm) b0_min
  · exact finB o_divmod b0_divmod
/-- slices -/
def rSlS (K : PySem.W.Frag) (CA : Nat → Option Addr) : V → Option Int → Option Int → Hp → VK → Prop := fun v lo hi H Q => ∃ F G σ s d x, F.K = K ∧ F.CA = CA ∧ RS F G H σ s ∧ Pk F G H v d ∧ slS lo hi d = some x ∧ ∀ v G' H', Grow G H G' H' → Res F G' H' σ s v x → Q v H'
theorem o_sl : SlR X (rSlS X.K CA) := by
  intro pins s σ H x v vl vu lo hi sl Q I rx hs pl pu ⟨F, G, σ', s', d, r, hK, hC, R, p1, e, q⟩
  cases d <;> first | (cases e; done) | skip
  · cases e
    obtain ⟨p, vs, rfl, h1, r1⟩ := p1.lst R.gh
    exact sl_list pins s σ H _ v vl vu lo hi sl Q I rx hs pl pu ⟨p, vs, rfl, SqL.of h1, finL R q (r1.cut lo hi)⟩
  · cases e
    have pg := p1.tupG
    obtain ⟨p, vs, rfl, h1, r1⟩ := p1.tup R.gh
    rw [hK] at h1
    refine sl_tupA pins s σ H _ v vl vu lo hi sl Q I rx hs pl pu ⟨p, vs, rfl, h1, fun hw => ?_, fun _ => finT R q (r1.cut lo hi)⟩
    rename_i ds
    have : cutG ds lo hi = ds := by
      unfold cutG
      rw [← r1.length, hw.1, hw.2, List.drop_zero, Nat.sub_zero, r1.length, List.take_length]
    rw [this] at q
    exact fin0 R q pg
theorem op_sl0 (C : Ctx X Tb N sc fnb n E CA W) {l : Expr} {p2 pos : Pos} {a : Den.X} (h1 : PE X l (denP X.K CA W (evP E a))) : PE X (.Subscript l (.Slice none none none p2) pos) (denE X.K CA W (evX E (.op (.sl false false) (.cons a .nil)))) := by
  refine (pe_slice (o_sl (CA := CA)) h1 po_none po_none).imp fun σ H Q h => ?_
  obtain ⟨F, G, s, hK, hC, R, P⟩ := chain1 h
  refine ⟨F, G, s, hK, hC, R, ?_⟩
  cases hm : evP E a s with
  | ok p s1 =>
    rw [hm] at P
    intro v G1 H1 x1 R1 pv
    obtain ⟨F', G', σ', s', ds, r, a1, a2, a3, a4, a5, a6⟩ := P v G1 H1 x1 R1 pv
    obtain ⟨d, rfl, p1⟩ := a4.inv1
    exact ⟨F', G', σ', s', d, r, a1, a2, a3, p1, a5, a6⟩
  | ex c p s1 => rw [hm] at P; exact P
  | bad => rw [hm] at P; exact P
theorem op_slR {F : Fr} {G0 G H : Hp} {σ : L2.St} {v w : V} {Q : VK} {b : Bool} (h : rOp X.K CA (if b = true then .sl true false else .sl false true) [v, w] H Q) : ∃ i, w = .int i ∧ rSlS X.K CA v (if b = true then some i else none) (if b = true then none else some i) H Q := by
  obtain ⟨F', G', σ', s', ds, r, a1, a2, a3, a4, a5, a6⟩ := h
  obtain ⟨d, d', rfl, p1, p2⟩ := a4.inv2
  cases b with
  | true =>
    cases d' <;> first | (cases a5; done) | skip
    exact ⟨_, p2.int, F', G', σ', s', d, r, a1, a2, a3, p1, a5, a6⟩
  | false =>
    cases d' <;> first | (cases a5; done) | skip
    exact ⟨_, p2.int, F', G', σ', s', d, r, a1, a2, a3, p1, a5, a6⟩
theorem op_sl1 (C : Ctx X Tb N sc fnb n E CA W) {l r : Expr} {p2 pos : Pos} {a b : Den.X} (h1 : PE X l (denP X.K CA W (evP E a))) (h2 : PE X r (denP X.K CA W (evP E b))) : PE X (.Subscript l (.Slice (some r) none none p2) pos) (denE X.K CA W (evX E (.op (.sl true false) (.cons a (.cons b .nil))))) := by
  refine (pe_slice (o_sl (CA := CA)) h1 (po_some h2) po_none).imp fun σ H Q h => ?_
  obtain ⟨F, G, s, hK, hC, R, P⟩ := chain2 h
  refine ⟨F, G, s, hK, hC, R, ?_⟩
  cases hm : evP E a s with
  | ok p s1 =>
    rw [hm] at P
    intro v G1 H1 x1 R1 pv
    obtain ⟨F', G', s', a1, a2, a3, P'⟩ := P v G1 H1 x1 R1 pv
    refine ⟨F', G', s', a1, a2, a3, ?_⟩
    cases hm2 : evP E b s' with
    | ok p2 s2 =>
      rw [hm2] at P'
      exact fun w G2 H2 x2 R2 pv2 => op_slR (b := true) (F := F) (G0 := G) (G := G) (H := H2) (σ := σ) (P' w G2 H2 x2 R2 pv2)
    | ex c p s1 => rw [hm2] at P'; exact P'
    | bad => rw [hm2] at P'; exact P'
  | ex c p s1 => rw [hm] at P; exact P
  | bad => rw [hm] at P; exact P
theorem op_sl2 (C : Ctx X Tb N sc fnb n E CA W) {l r : Expr} {p2 pos : Pos} {a b : Den.X} (h1 : PE X l (denP X.K CA W (evP E a))) (h2 : PE X r (denP X.K CA W (evP E b))) : PE X (.Subscript l (.Slice none (some r) none p2) pos) (denE X.K CA W (evX E (.op (.sl false true) (.cons a (.cons b .nil))))) := by
  refine (pe_slice (o_sl (CA := CA)) h1 po_none (po_some h2)).imp fun σ H Q h => ?_
  obtain ⟨F, G, s, hK, hC, R, P⟩ := chain2 h
  refine ⟨F, G, s, hK, hC, R, ?_⟩
  cases hm : evP E a s with
  | ok p s1 =>
    rw [hm] at P
    intro v G1 H1 x1 R1 pv
    obtain ⟨F', G', s', a1, a2, a3, P'⟩ := P v G1 H1 x1 R1 pv
    refine ⟨F', G', s', a1, a2, a3, ?_⟩
    cases hm2 : evP E b s' with
    | ok p2 s2 =>
      rw [hm2] at P'
      exact fun w G2 H2 x2 R2 pv2 => op_slR (b := false) (F := F) (G0 := G) (G := G) (H := H2) (σ := σ) (P' w G2 H2 x2 R2 pv2)
    | ex c p s1 => rw [hm2] at P'; exact P'
    | bad => rw [hm2] at P'; exact P'
  | ex c p s1 => rw [hm] at P; exact P
  | bad => rw [hm] at P; exact P
theorem op_sl3 (C : Ctx X Tb N sc fnb n E CA W) {l r q : Expr} {p2 pos : Pos} {a b c : Den.X} (h1 : PE X l (denP X.K CA W (evP E a))) (h2 : PE X r (denP X.K CA W (evP E b))) (h3 : PE X q (denP X.K CA W (evP E c))) :
    PE X (.Subscript l (.Slice (some r) (some q) none p2) pos) (denE X.K CA W (evX E (.sl3 a b c))) := by
  refine (pe_slice (o_sl (CA := CA)) h1 (po_some h2) (po_some h3)).imp fun σ H Q ⟨F, G, s, hK, hC, R, P⟩ => ⟨F, G, s, hK, hC, R, ?_⟩
  have P : PostE F G σ W Q ((evP E a s).bind fun p s1 => (evP E b s1).bind fun q s2 => match s2.look q with
    | some (.int i) => (evP E c s2).bind fun r s3 => match s3.look p, s3.look r with
      | some d, some (.int j) => .opt s3 (slS (some i) (some j) d)
      | _, _ => .bad
    | _ => .bad) := P
  cases hm : evP E a s with
  | ok p s1 =>
    rw [hm] at P
    refine fun v G1 H1 x1 R1 pv => ⟨F, G1, s1, hK, hC, R1, ?_⟩
    rw [show ∀ f, (Out.ok p s1 : Out PV).bind f = f p s1 from fun _ => rfl] at P
    cases hm2 : evP E b s1 with
    | ok p2 s2 =>
      rw [hm2] at P
      intro w G2 H2 x2 R2 pv2
      rw [show ∀ f, (Out.ok p2 s2 : Out PV).bind f = f p2 s2 from fun _ => rfl] at P
      split at P
      · rename_i i hi
        refine ⟨i, (R2.look pv2 hi).int, F, G2, s2, hK, hC, R2, ?_⟩
        cases hm3 : evP E c s2 with
        | ok p3 s3 =>
          rw [hm3] at P
          intro u G3 H3 x3 R3 pv3
          rw [show ∀ f, (Out.ok p3 s3 : Out PV).bind f = f p3 s3 from fun _ => rfl] at P
          split at P
          · rename_i d j hd hj
            refine ⟨j, (R3.look pv3 hj).int, ?_⟩
            cases hs : slS (some i) (some j) d with
            | none => rw [hs] at P; exact P.elim
            | some x =>
              rw [hs] at P
              exact ⟨F, G3, σ, s3, d, x, hK, hC, R3, R3.look ((pv.mono x2).mono x3) hd, hs, fun v' G' H' g r => P v' G' H' (((x1.trans x2).trans x3).trans g.g) (R3.grow g) r⟩
          · exact P.elim
        | ex c p s1 => rw [hm3] at P; exact exW.mono (x1.trans x2) P
        | bad => rw [hm3] at P; exact P
      · exact P.elim
    | ex c p s1 => rw [hm2] at P; exact exW.mono x1 P
    | bad => rw [hm2] at P; exact P
  | ex c p s1 => rw [hm] at P; exact P
  | bad => rw [hm] at P; exact P
end
end Den
set_option Elab.async false
set_option linter.all false
set_option maxRecDepth 100000
set_option autoImplicit false
set_option maxHeartbeats 4000000
namespace Den
open PySem PySem.Spec PyProof.Rows L2
section
variable {X : Cx} {Tb : Tab} {N : List Str} {sc : Scope} {fnb : Str → Bool} {n : Nat} {E : Env} {CA : Nat → Option Addr} {W : WX}
theorem op_rev (C : Ctx X Tb N sc fnb n E CA W) {l : Expr} {k : Nat} {p1 p2 p3 pos : Pos} {a : Den.X} (h1 : PE X l (denP X.K CA W (evP E a))) :
    PE X (.Subscript l (.Slice none none (some (.UnaryOp .USub (.Constant (.int 1) k p1) p2)) p3) pos) (denE X.K CA W (evX E (.op .rev (.cons a .nil)))) := by
  refine (pe_revL h1).imp fun σ H Q h => ?_
  obtain ⟨F, G, s, hK, hC, R, P⟩ := chain1 h
  refine ⟨F, G, s, hK, hC, R, ?_⟩
  cases hm : evP E a s with
  | ok p s1 =>
    rw [hm] at P
    intro v G1 H1 x1 R1 pv
    obtain ⟨F', G', σ', s', ds, r, a1, a2, a3, a4, a5, a6⟩ := P v G1 H1 x1 R1 pv
    obtain ⟨d, rfl, p1⟩ := a4.inv1
    cases d <;> first | (cases a5; done) | skip
    cases a5
    obtain ⟨p, vs, rfl, h1, r1⟩ := p1.lst a3.gh
    exact ⟨p, vs, rfl, SqL.of h1, finL a3 a6 r1.reverse⟩
  | ex c p s1 => rw [hm] at P; exact P
  | bad => rw [hm] at P; exact P
theorem op_ix (C : Ctx X Tb N sc fnb n E CA W) {l r : Expr} {pos : Pos} {a b : Den.X} (pr : plain r = true) (h1 : PE X l (denP X.K CA W (evP E a))) (h2 : PE X r (denP X.K CA W (evP E b))) :
    PE X (.Subscript l r pos) (denE X.K CA W (evX E (.op .ix (.cons a (.cons b .nil))))) :=
  (pe_ix (o_ix (CA := CA)) h1 h2 (ix_of pr)).imp fun σ H Q h => chain2 h
theorem op_neg (C : Ctx X Tb N sc fnb n E CA W) {l : Expr} {pos : Pos} {a : Den.X} (h1 : PE X l (denP X.K CA W (evP E a))) : PE X (.UnaryOp .USub l pos) (denE X.K CA W (evX E (.op .neg (.cons a .nil)))) :=
  (pe_un (o_neg (CA := CA)) h1).imp fun σ H Q h => chain1 h
def tyName (d : D) (t : String) : Prop := match d with | .non => t = "NoneType" | .bl _ => t = "bool" | .int _ => t = "int" | .str _ => t = "str" | .lst _ => t = "list" | .tup _ => t = "tuple" | .dic _ _ => t = "dict" | .obj _ _ _ => True | .frl _ => True
/-- isinstance with a built-in class -/
theorem tyx_of {F : Fr} {G H : Hp} {σ : L2.St} {s : S} (R : RS F G H σ s) {v : V} {d : D} (h : Pk F G H v d) : ∃ t : String, tyName d t ∧
    (d.isObj = false → TyX F.K H v (.type t)) := by
  cases d with
  | non => exact ⟨_, rfl, fun _ => by rw [h.non]; exact .base .non⟩
  | bl b => exact ⟨_, rfl, fun _ => by rw [h.bl]; exact .base (.bl b)⟩
  | int b => exact ⟨_, rfl, fun _ => by rw [h.int]; exact .base (.int b)⟩
  | str b => exact ⟨_, rfl, fun _ => by rw [h.str]; exact .base (.str b)⟩
  | lst ds =>
    refine ⟨_, rfl, fun _ => ?_⟩
    obtain ⟨p, vs, rfl, h1, r1⟩ := h.lst R.gh
    exact .base (.lst h1)
  | tup ds =>
    refine ⟨_, rfl, fun _ => ?_⟩
    obtain ⟨p, vs, rfl, h1, r1⟩ := h.tup R.gh
    rcases h1 with (h1 | ⟨o, h1⟩) | ⟨o, its, m, h1, h2, _⟩
    · exact .base (.tup h1)
    · exact .fTuple h1
    · exact .kTuple h1 h2
  | dic ks ds =>
    refine ⟨_, rfl, fun _ => ?_⟩
    obtain ⟨p, kvs, rfl, h1, _⟩ := h.dic R.gh
    exact .base (.dK h1)
  | obj c ns vs => exact ⟨"object", trivial, fun h => Bool.noConfusion h⟩
  | frl xs => exact ⟨"object", trivial, fun h => Bool.noConfusion h⟩
theorem kit_isD {K : PySem.W.Frag} {d : D} {t : Str} {b : Bool} (h : isD d t = some b) (hd : d.isObj = false) : ∃ u : String, bootBuiltins t = some (.type u) ∧ ∀ t' : String, tyName d t' → PySem.W.kitOne K (.type t') (.type u) = some b := by
  unfold isD at h
  rw [hd, if_neg Bool.false_ne_true] at h
  split at h
  · rename_i e
    subst e
    refine ⟨"bool", My.b0_bool, fun t' ht => ?_⟩
    cases d <;> first | (cases h; cases ht; first | exact kit_ty (r := true) (by decide +kernel) | exact kit_ty (r := false) (by decide +kernel)) | exact Bool.noConfusion hd
  · split at h
    · rename_i e
      subst e
      refine ⟨"int", My.b0_int, fun t' ht => ?_⟩
      cases d <;> first | (cases h; cases ht; first | exact kit_ty (r := true) (by decide +kernel) | exact kit_ty (r := false) (by decide +kernel)) | exact Bool.noConfusion hd
    · split at h
      · rename_i e
        subst e
        refine ⟨"str", My.b0_str, fun t' ht => ?_⟩
        cases d <;> first | (cases h; cases ht; first | exact kit_ty (r := true) (by decide +kernel) | exact kit_ty (r := false) (by decide +kernel)) | exact Bool.noConfusion hd
      · split at h
        · rename_i e
          subst e
          refine ⟨"tuple", My.b0_tuple, fun t' ht => ?_⟩
          cases d <;> first | (cases h; cases ht; first | exact kit_ty (r := true) (by decide +kernel) | exact kit_ty (r := false) (by decide +kernel)) | exact Bool.noConfusion hd
        · split at h
          · rename_i e
            subst e
            refine ⟨"list", My.b0_list, fun t' ht => ?_⟩
            cases d <;> first | (cases h; cases ht; first | exact kit_ty (r := true) (by decide +kernel) | exact kit_ty (r := false) (by decide +kernel)) | exact Bool.noConfusion hd
          · cases h
theorem ty_boot {t : Str} (h : isTyName t = true) : ∃ u : String, bootBuiltins t = some (.type u) := by
  unfold isTyName at h
  simp only [Bool.or_eq_true, beq_iff_eq] at h
  rcases h with (((h | h) | h) | h) | h <;> subst h
  · exact ⟨_, My.b0_bool⟩
  · exact ⟨_, My.b0_int⟩
  · exact ⟨_, My.b0_str⟩
  · exact ⟨_, My.b0_tuple⟩
  · exact ⟨_, My.b0_list⟩
theorem op_isinst (C : Ctx X Tb N sc fnb n E CA W) {t : Str} {l : Expr} {p p' pos : Pos} {a : Den.X} (ht : isTyName t = true) (g1 : glT Tb sc "isinstance" = true) (g2 : glT Tb sc t = true) (pl : plain l = true) (h1 : PE X l (denP X.K CA W (evP E a))) :
    PE X (.Call (.Name "isinstance" p) [l, .Name t p'] [] pos) (denE X.K CA W (evX E (.op (.isinst [t]) (.cons a .nil)))) := by
  obtain ⟨ga, oa, ma⟩ := C.glT g1
  obtain ⟨gb, ob, mb⟩ := C.glT g2
  obtain ⟨d1, d2, d3⟩ := okName_dbg oa
  obtain ⟨e1, e2, e3⟩ := okName_dbg ob
  obtain ⟨u, hu⟩ := ty_boot ht
  have pt : PE X (.Name t p') (tC (.ty u)) := pe_bltn gb mb hu rfl e3 e1
  refine (pe_callB (call_isi (X := X)) ga ma My.b0_isinstance (pa_cons h1 (pa_cons pt pa_nil (star_of rfl _ _)) (star_of pl _ _)) d3 d1 (star_of pl _ _) (any_of rfl)).imp fun σ H Q h => ?_
  obtain ⟨F, G, s, hK, hC, R, P⟩ := chain1 h
  refine ⟨F, G, s, hK, hC, R, ?_⟩
  cases hm : evP E a s with
  | ok p s1 =>
    rw [hm] at P
    intro v G1 H1 x1 R1 pv
    obtain ⟨F', G', σ', s', ds, r, a1, a2, a3, a4, a5, a6⟩ := P v G1 H1 x1 R1 pv
    obtain ⟨d, rfl, p1⟩ := a4.inv1
    have a5 : blO (isD d t) = some r := a5
    cases hb : isD d t with
    | none => rw [hb] at a5; cases a5
    | some b =>
      rw [hb] at a5
      cases a5
      obtain ⟨t', ht', htx⟩ := tyx_of a3 p1
      have hd : d.isObj = false := by
        cases hq : d.isObj with
        | false => rfl
        | true => unfold isD at hb; rw [hq, if_pos rfl] at hb; cases hb
      obtain ⟨u', hu', hk⟩ := kit_isD (K := X.K) hb hd
      rw [hu] at hu'
      cases hu'
      rw [a1] at htx
      exact ⟨v, .ty u, _, _, b, rfl, .ty u, htx hd, hk t' ht', fin0 a3 a6 (.bl _)⟩
  | ex c p s1 => rw [hm] at P; exact P
  | bad => rw [hm] at P; exact P
theorem findIdx_spec {xs : List D} {d : D} {k : Nat} (h : (xs.findIdx? fun y => D.eqv y d) = some k) : ∃ z, xs[k]? = some z ∧ D.eqv z d = true ∧ ∀ (m : Nat) (z' : D), m < k → xs[m]? = some z' → D.eqv z' d = false := by
  obtain ⟨h1, h2, h3⟩ := List.findIdx?_eq_some_iff_getElem.mp h
  refine ⟨xs[k], List.getElem?_eq_getElem h1, h2, fun m z' hm e => ?_⟩
  obtain ⟨q1, q2⟩ := List.getElem?_eq_some_iff.mp e
  subst q2
  have := h3 m hm
  simpa using this
theorem pys_get : ∀ {xs : List D} {k : Nat}, (D.pys xs)[k]? = (xs[k]?).map D.py
  | [], _ => by simp [D.pys]
  | x :: xs, 0 => by simp [D.pys]
  | x :: xs, k + 1 => by simp only [D.pys, List.getElem?_cons_succ]; exact pys_get
theorem Reps.flat_get {K : PySem.W.Frag} {CA : Nat → Option Addr} {G : Hp} {vs : List V} {ds : List D} {k : Nat} {v : V} (h : Reps K CA G vs ds) (f : ds.all D.flat = true) (e : vs[k]? = some v) : ∃ d, ds[k]? = some d ∧ d.v = some v := by
  obtain ⟨d, e1, r1⟩ := h.getV e
  exact ⟨d, e1, r1.flatV (List.all_eq_true.mp f d (List.mem_of_getElem? e1))⟩
/-- a built-in method by values -/
def rBm (K : PySem.W.Frag) (CA : Nat → Option Addr) (m : BM) : V → List V → Hp → VK → Prop := fun x vs H Q => ∃ F G σ s d ds r, F.K = K ∧ F.CA = CA ∧ RS F G H σ s ∧ Pk F G H x d ∧ Pks F G H vs ds ∧ bmSem m d ds = some r ∧ ∀ v G' H', Grow G H G' H' → Res F G' H' σ s v r → Q v H'
theorem o_index (hu : X.A.units + 65 < cLine) : MtR X "list.index" (rBm X.K CA .index) := by
  intro pins s σ H x vs v us Q I rx rv ⟨F, G, σ', s', d, ds, r, hK, hC, R, p1, hp, e, q⟩
  have h1 : ds.length = 1 := by
    match ds, e with
    | [_], _ => rfl
  obtain ⟨d', rfl⟩ := List.length_eq_one_iff.mp h1
  obtain ⟨y, rfl⟩ := List.length_eq_one_iff.mp (hp.len.trans h1)
  have p2 := hp.1
  replace e : idxS d d' = some r := e
  unfold idxS at e
  split at e
  · rename_i xs
    split at e
    · rename_i hg
      cases hk : xs.findIdx? fun y => D.eqv y d' with
      | none => rw [hk] at e; cases e
      | some k =>
        rw [hk] at e
        cases e
        obtain ⟨z, z1, z2, z3⟩ := findIdx_spec hk
        rw [Bool.or_eq_true, Bool.and_eq_true, Bool.and_eq_true] at hg
        rcases hg with ⟨f1, f2⟩ | ⟨o1, o2⟩
        · obtain ⟨p, vs, rfl, h1, r1⟩ := p1.lst R.gh
          have hy := p2.flat f1
          obtain ⟨w, w1, w2⟩ := r1.get z1
          have hw := w2.flatV (List.all_eq_true.mp f2 z (List.mem_of_getElem? z1))
          refine mt_index pins s σ H _ _ v us Q I rx rv ⟨p, vs, y, k, w, rfl, rfl, SqL.of h1, flat_V hy, r1.flats f2, w1, by rw [← eqv_flat hw hy]; exact z2, fun m z' hm e' => ?_, fin0 R q (.int _)⟩
          obtain ⟨dz, dz1, dz2⟩ := r1.flat_get f2 e'
          rw [← eqv_flat dz2 hy]
          exact z3 m dz hm dz1
        · have a := p1.dp R o2
          have b := p2.dp R o1
          rw [hK] at a b
          obtain ⟨p, vs, rfl, h1, r1⟩ := p1.lst R.gh
          refine mt_indexD hu pins s σ H _ _ v us Q I rx rv ⟨p, y, d'.py, D.pys xs, k, z.py, rfl, rfl, a, b, o2, o1, by rw [pys_get, z1]; rfl, z2, fun m z' hm e' => ?_, fin0 R q (.int _)⟩
          rw [pys_get] at e'
          cases hx : xs[m]? with
          | none => rw [hx] at e'; cases e'
          | some dz =>
            rw [hx] at e'
            cases e'
            exact z3 m dz hm hx
    · cases e
  · cases e
def bmTyName : BM → String
  | .index => "list"
theorem bm_ty {F : Fr} {G H : Hp} {σ : L2.St} {s : S} (R : RS F G H σ s) {m : BM} {v : V} {d : D} (h : Pk F G H v d) (e : bmTy m d = true) : tyV F.K (bmTyName m) v H := by
  cases m with
  | index =>
    cases d <;> first | (exact Bool.noConfusion e) | skip
    obtain ⟨p, vs, rfl, h1, r1⟩ := h.lst R.gh
    exact .inl ⟨rfl, _, SqL.of h1⟩
theorem few_of {cp : Pos} {env : PySem.Env} {es : List Expr} (h : plains es = true) (hl : es.length < 30) : ((backTo cp (starEach es env)).all (fun x => !x.1) && (backToKw cp (keywordEach [] env)).all (fun x => x.1.isSome) && decide (es.length + ([] : List Keyword).length + (if ([] : List Keyword).isEmpty then 0 else 1) < 30)) = true := by
  rw [all_of h]
  simp [hl, keywordEach, backToKw]
theorem s_bm (C : Ctx X Tb N sc fnb n E CA W) {m : BM} {l a : Expr} {as : List Expr} {ap cp : Pos} {o : Den.X} {xs : XS} (hl : (ap.endLine == cp.line) = true) (pa : plainA l = true) (pr : plains (a :: as) = true) (hlen : as.length < 20) (h1 : PE X l (denP X.K CA W (evP E o))) (h2 : PA X (a :: as) (denPs X.K CA W (evPs E xs))) :
    PE X (.Call (.Attribute l m.name ap) (a :: as) [] cp) (denE X.K CA W (evX E (.bm m o xs))) := by
  have hu : X.A.units + 65 < cLine := by have := C.room.un; omega
  have pr' : plain a = true := by unfold plains at pr; rw [Bool.and_eq_true] at pr; exact pr.1
  have pr2 : plains as = true := by unfold plains at pr; rw [Bool.and_eq_true] at pr; exact pr.2
  have key : PE X (.Call (.Attribute l m.name ap) (a :: as) [] cp) (tBM X.K (bmTyName m) (rBm X.K CA m) (denP X.K CA W (evP E o)) (denPs X.K CA W (evPs E xs))) := by
    cases m with
    | index => exact pe_bm PySem.F.plainAttrs_list PySem.F.slot_list_index PySem.F.type_list_index (o_index (CA := CA) hu) h1 h2 (attr_of pa _ _ _) (few_of pr (by simp; omega)) hl (star_of pr' _ _) (any_of pr2)
  refine key.imp fun σ H Q ⟨F, G, s, hK, hC, R, P⟩ => ⟨F, G, s, hK, hC, R, ?_⟩
  have P : PostE F G σ W Q ((evP E o s).bind fun p s1 => match s1.look p with
    | some d => if bmTy m d = true then (evPs E xs s1).bind fun ps s2 => match s2.look p, s2.looks ps with
        | some d, some ds => .opt s2 (bmSem m d ds)
        | _, _ => .bad
      else .bad
    | none => .bad) := P
  cases hm : evP E o s with
  | ok p s1 =>
    rw [hm] at P
    intro v G1 H1 x1 R1 pv
    rw [show ∀ f, (Out.ok p s1 : Out PV).bind f = f p s1 from fun _ => rfl] at P
    split at P
    · rename_i d hd
      split at P
      · rename_i ht
        refine ⟨by rw [← hK]; exact bm_ty R1 (R1.look pv hd) ht, F, G1, s1, hK, hC, R1, ?_⟩
        cases hm2 : evPs E xs s1 with
        | ok ps s2 =>
          rw [hm2] at P
          intro ws G2 H2 x2 R2 pvs
          rw [show ∀ f, (Out.ok ps s2 : Out (List PV)).bind f = f ps s2 from fun _ => rfl] at P
          split at P
          · rename_i d2 ds h1 h2
            cases hs : bmSem m d2 ds with
            | none => rw [hs] at P; exact P.elim
            | some r =>
              rw [hs] at P
              exact ⟨F, G2, σ, s2, d2, ds, r, hK, hC, R2, R2.look (pv.mono x2) h1, R2.looks pvs h2, hs, fun v' G' H' g r => P v' G' H' ((x1.trans x2).trans g.g) (R2.grow g) r⟩
          · exact P.elim
        | ex c p s1 => rw [hm2] at P; exact exW.mono x1 P
        | bad => rw [hm2] at P; exact P
      · exact P.elim
    · exact P.elim
  | ex c p s1 => rw [hm] at P; exact P
  | bad => rw [hm] at P; exact P
/-! displays -/
theorem s_lst {es : List Expr} {xs : XS} {pos : Pos} (h : PA X es (denMs X.K CA W (evMs E xs))) : PE X (.List es pos) (denE X.K CA W (evX E (.lst xs))) := by
  refine (pe_lst h).imp fun σ H Q ⟨F, G, s, hK, hC, R, P⟩ => ⟨F, G, s, hK, hC, R, ?_⟩
  have P : PostE F G σ W Q ((evMs E xs s).bind fun ds s1 => if ds.length ≤ lim then .ok (.own (.lst ds)) s1 else .bad) := P
  cases hm : evMs E xs s with
  | ok ds s1 =>
    rw [hm] at P
    intro vs G1 H1 x1 R1 r1
    rw [show ∀ f, (Out.ok ds s1 : Out (List D)).bind f = f ds s1 from fun _ => rfl] at P
    split at P
    · rename_i hl
      exact ⟨by rw [r1.length]; exact sz hl, fun p hp => P _ G1 _ x1 (R1.grow (Grow.newH R1.gh hp)) (Res.own R1 hp (.lst upd_same r1))⟩
    · exact P.elim
  | ex c p s1 => rw [hm] at P; exact P
  | bad => rw [hm] at P; exact P
theorem s_tup {es : List Expr} {xs : XS} {k : Nat} {pos : Pos} (h : PA X es (denMs X.K CA W (evMs E xs))) : PE X (.Tuple es k pos) (denE X.K CA W (evX E (.tup xs))) := by
  refine (pe_tup h).imp fun σ H Q ⟨F, G, s, hK, hC, R, P⟩ => ⟨F, G, s, hK, hC, R, ?_⟩
  have P : PostE F G σ W Q ((evMs E xs s).bind fun ds s1 => if ds.length ≤ lim then .ok (.shr (.tup ds)) s1 else .bad) := P
  cases hm : evMs E xs s with
  | ok ds s1 =>
    rw [hm] at P
    intro vs G1 H1 x1 R1 r1
    rw [show ∀ f, (Out.ok ds s1 : Out (List D)).bind f = f ds s1 from fun _ => rfl] at P
    split at P
    · rename_i hl
      refine ⟨by rw [r1.length]; exact sz hl, fun p hp => P _ _ _ (x1.trans (Evl.Ex.new (gnone R1.gh hp))) (R1.grow (Grow.newG R1.gh hp)) (Res.shr (.tup (Evl.st_of upd_same) (r1.mono (Evl.Ex.new (gnone R1.gh hp)))))⟩
    · exact P.elim
  | ex c p s1 => rw [hm] at P; exact P
  | bad => rw [hm] at P; exact P
/-! lists of expressions -/
theorem s_nilP : PA X [] (denPs X.K CA W (evPs E .nil)) := pa_nil.imp fun σ H Q ⟨F, G, s, hK, hC, R, P⟩ => P [] G H (Evl.Ex.refl _) R trivial
theorem s_nilM : PA X [] (denMs X.K CA W (evMs E .nil)) := pa_nil.imp fun σ H Q ⟨F, G, s, hK, hC, R, P⟩ => P [] G H (Evl.Ex.refl _) R .nil
theorem s_consP {e : Expr} {es : List Expr} {x : Den.X} {xs : XS} (pl : plain e = true) (h1 : PE X e (denP X.K CA W (evP E x))) (h2 : PA X es (denPs X.K CA W (evPs E xs))) : PA X (e :: es) (denPs X.K CA W (evPs E (.cons x xs))) := by
  refine (pa_cons h1 h2 (star_of pl _ _)).imp fun σ H Q ⟨F, G, s, hK, hC, R, P⟩ => ⟨F, G, s, hK, hC, R, ?_⟩
  have P : PostPs F G σ W Q ((evP E x s).bind fun p s1 => (evPs E xs s1).bind fun ps s2 => .ok (p :: ps) s2) := P
  cases hm : evP E x s with
  | ok p s1 =>
    rw [hm] at P
    refine fun v G1 H1 x1 R1 pv => ⟨F, G1, s1, hK, hC, R1, ?_⟩
    have P : PostPs F G σ W Q ((evPs E xs s1).bind fun ps s2 => .ok (p :: ps) s2) := P
    cases hm2 : evPs E xs s1 with
    | ok ps s2 =>
      rw [hm2] at P
      exact fun vs G2 H2 x2 R2 pvs => P (v :: vs) G2 H2 (x1.trans x2) R2 ⟨pv.mono x2, pvs⟩
    | ex c p s1 => rw [hm2] at P; exact exW.mono x1 P
    | bad => rw [hm2] at P; exact P
  | ex c p s1 => rw [hm] at P; exact P
  | bad => rw [hm] at P; exact P
theorem s_consM {e : Expr} {es : List Expr} {x : Den.X} {xs : XS} (pl : plain e = true) (h1 : PE X e (denE X.K CA W (evX E x))) (h2 : PA X es (denMs X.K CA W (evMs E xs))) : PA X (e :: es) (denMs X.K CA W (evMs E (.cons x xs))) := by
  refine (pa_cons h1 h2 (star_of pl _ _)).imp fun σ H Q ⟨F, G, s, hK, hC, R, P⟩ => ⟨F, G, s, hK, hC, R, ?_⟩
  have P : PostMs F G σ W Q ((evX E x s).bind fun v s1 => match v.d with
    | some d => (evMs E xs s1).bind fun ds s2 => .ok (d :: ds) s2
    | none => .bad) := P
  cases hm : evX E x s with
  | ok y s1 =>
    rw [hm] at P
    intro v G1 H1 x1 R1 res
    rw [show ∀ f, (Out.ok y s1 : Out SV).bind f = f y s1 from fun _ => rfl] at P
    split at P
    · rename_i d hd
      obtain ⟨G2, x2, R2, r2⟩ := res.freeze R1 hd
      refine ⟨F, G2, s1, hK, hC, R2, ?_⟩
      cases hm2 : evMs E xs s1 with
      | ok ds s2 =>
        rw [hm2] at P
        exact fun vs G3 H3 x3 R3 rs => P (v :: vs) G3 H3 ((x1.trans x2).trans x3) R3 (.cons (r2.mono x3) rs)
      | ex c p s1 => rw [hm2] at P; exact exW.mono (x1.trans x2) P
      | bad => rw [hm2] at P; exact P
    · exact P.elim
  | ex c p s1 => rw [hm] at P; exact P
  | bad => rw [hm] at P; exact P
end
end Den
set_option Elab.async false
set_option linter.all false
set_option maxRecDepth 100000
set_option autoImplicit false
set_option maxHeartbeats 4000000
namespace Den
open PySem PySem.Spec PyProof.Rows L2
section
variable {X : Cx} {Tb : Tab} {N : List Str} {sc : Scope} {fnb : Str → Bool} {n : Nat} {E : Env} {CA : Nat → Option Addr} {W : WX}
/-- what is known of a list of expressions -/
def AllPE (X : Cx) (Tb : Tab) (N : List Str) (sc : Scope) (E : Env) (CA : Nat → Option Addr) (W : WX) : XS → List Expr → Prop
  | .nil, [] => True
  | .cons x xs, e :: es => (plain e = true ∧ PE X e (denE X.K CA W (evX E x)) ∧ PE X e (denP X.K CA W (evP E x))) ∧ AllPE X Tb N sc E CA W xs es
  | _, _ => False
theorem AllPE.plains : ∀ {xs : XS} {es : List Expr}, AllPE X Tb N sc E CA W xs es → plains es = true
  | .nil, [], _ => rfl
  | .cons x xs, e :: es, h => by unfold Den.plains; rw [h.1.1, AllPE.plains h.2]; rfl
  | .nil, _ :: _, h => h.elim
  | .cons _ _, [], h => h.elim
theorem AllPE.ps : ∀ {xs : XS} {es : List Expr}, AllPE X Tb N sc E CA W xs es → PA X es (denPs X.K CA W (evPs E xs))
  | .nil, [], _ => s_nilP
  | .cons x xs, e :: es, h => s_consP h.1.1 h.1.2.2 (AllPE.ps h.2)
  | .nil, _ :: _, h => h.elim
  | .cons _ _, [], h => h.elim
theorem AllPE.ms : ∀ {xs : XS} {es : List Expr}, AllPE X Tb N sc E CA W xs es → PA X es (denMs X.K CA W (evMs E xs))
  | .nil, [], _ => s_nilM
  | .cons x xs, e :: es, h => s_consM h.1.1 h.1.2.1 (AllPE.ms h.2)
  | .nil, _ :: _, h => h.elim
  | .cons _ _, [], h => h.elim
theorem AllPE.one {xs : XS} {e : Expr} (h : AllPE X Tb N sc E CA W xs [e]) : ∃ x, xs = .cons x .nil ∧ plain e = true ∧ PE X e (denP X.K CA W (evP E x)) := by
  match xs, h with
  | .cons x .nil, h => exact ⟨x, rfl, h.1.1, h.1.2.2⟩
  | .cons x (.cons _ _), h => exact h.2.elim
theorem AllPE.two {xs : XS} {e f : Expr} (h : AllPE X Tb N sc E CA W xs [e, f]) : ∃ x y, xs = .cons x (.cons y .nil) ∧ plain e = true ∧ plain f = true ∧ PE X e (denP X.K CA W (evP E x)) ∧ PE X f (denP X.K CA W (evP E y)) := by
  match xs, h with
  | .cons x (.cons y .nil), h => exact ⟨x, y, rfl, h.1.1, h.2.1.1, h.1.2.2, h.2.1.2.2⟩
  | .cons x .nil, h => exact h.2.elim
  | .cons x (.cons _ (.cons _ _)), h => exact h.2.2.elim
theorem shape_sound (C : Ctx X Tb N sc fnb n E CA W) {o : Op} {e : Expr} {gs : List Str} {es : List Expr} {xs : XS} (hs : shape o e = some (gs, es)) (hg : gs.all (glT Tb sc) = true) (ha : AllPE X Tb N sc E CA W xs es) : PE X e (denE X.K CA W (evX E (.op o xs))) := by
  unfold shape at hs
  split at hs
  · rename_i b hb
    split at hs
    · split at hs <;> cases hs
      rename_i hp
      subst hp
      obtain ⟨x, y, rfl, p1, p2, h1, h2⟩ := ha.two
      exact op_bin C hb h1 h2
    · cases hs
  · split at hs
    · rename_i c hc
      split at hs
      · split at hs <;> cases hs
        rename_i hp
        subst hp
        obtain ⟨x, y, rfl, p1, p2, h1, h2⟩ := ha.two
        exact op_cmp C hc p2 h1 h2
      · cases hs
    · split at hs
      · rename_i f hf
        split at hs
        · split at hs <;> cases hs
          rename_i hp
          subst hp
          exact op_fn C hf (by simpa using hg) ha.plains ha.ps
        · cases hs
      · split at hs
        · split at hs <;> cases hs
          obtain ⟨x, rfl, p1, h1⟩ := ha.one
          exact op_neg C h1
        · split at hs <;> cases hs
          obtain ⟨x, rfl, p1, h1⟩ := ha.one
          exact op_isN1 h1
        · split at hs <;> cases hs
          obtain ⟨x, rfl, p1, h1⟩ := ha.one
          exact op_isnN1 h1
        · split at hs <;> cases hs
          obtain ⟨x, y, rfl, p1, p2, h1, h2⟩ := ha.two
          exact op_ix C p2 h1 h2
        · split at hs <;> cases hs
          obtain ⟨x, rfl, p1, h1⟩ := ha.one
          exact op_sl0 C h1
        · split at hs <;> cases hs
          obtain ⟨x, y, rfl, p1, p2, h1, h2⟩ := ha.two
          exact op_sl1 C h1 h2
        · split at hs <;> cases hs
          obtain ⟨x, y, rfl, p1, p2, h1, h2⟩ := ha.two
          exact op_sl2 C h1 h2
        · split at hs <;> cases hs
          obtain ⟨x, rfl, p1, h1⟩ := ha.one
          exact op_rev C h1
        · split at hs
          · split at hs <;> cases hs
            rename_i hp
            obtain ⟨q1, q2, q3⟩ := hp
            subst q1 q2
            obtain ⟨x, rfl, p1, h1⟩ := ha.one
            simp only [List.all_cons, List.all_nil, Bool.and_true, Bool.and_eq_true] at hg
            exact op_isinst C q3 hg.1 hg.2 p1 h1
          · cases hs
        · cases hs
/-! two comparisons -/
theorem s_cmp2 (C : Ctx X Tb N sc fnb n E CA W) {o p : Op} {a b c : Den.X} {l r q : Expr} {op pp : CmpOp} {pos : Pos} (h1 : copOf o = some op) (h2 : copOf p = some pp) (pq : plain q = true) (pl : PE X l (denP X.K CA W (evP E a))) (pr : PE X r (denP X.K CA W (evP E b))) (pc : PE X q (denP X.K CA W (evP E c))) :
    PE X (.Compare l [op, pp] [r, q] pos) (denE X.K CA W (evX E (.cmp2 o p a b c))) := by
  refine (pe_chain (cmpR C h1) (cmpR C h2) pl pr pc (last_of pq _ _)).imp fun σ H Q ⟨F, G, s, hK, hC, R, P⟩ => ⟨F, G, s, hK, hC, R, ?_⟩
  have P : PostE F G σ W Q ((evP E a s).bind fun x s1 => (evP E b s1).bind fun y s2 => match (s2.looks [x, y]).bind (opSem o) with
    | some (.shr (.bl true)) => (evP E c s2).bind fun z s3 => .opt s3 ((s3.looks [y, z]).bind (opSem p))
    | some (.shr (.bl false)) => .ok (.shr (.bl false)) s2
    | _ => .bad) := P
  cases hm : evP E a s with
  | ok p1 s1 =>
    rw [hm] at P
    refine fun v G1 H1 x1 R1 pv => ⟨F, G1, s1, hK, hC, R1, ?_⟩
    rw [show ∀ f, (Out.ok p1 s1 : Out PV).bind f = f p1 s1 from fun _ => rfl] at P
    cases hm2 : evP E b s1 with
    | ok p2 s2 =>
      rw [hm2] at P
      intro w G2 H2 x2 R2 pv2
      rw [show ∀ f, (Out.ok p2 s2 : Out PV).bind f = f p2 s2 from fun _ => rfl] at P
      cases hl : s2.looks [p1, p2] with
      | none => rw [hl] at P; exact P.elim
      | some ds =>
        rw [hl] at P
        have P : PostE F G σ W Q (match opSem o ds with
          | some (.shr (.bl true)) => (evP E c s2).bind fun z s3 => .opt s3 ((s3.looks [p2, z]).bind (opSem p))
          | some (.shr (.bl false)) => .ok (.shr (.bl false)) s2
          | _ => .bad) := P
        split at P
        · rename_i ho
          refine ⟨F, G2, σ, s2, ds, _, hK, hC, R2, R2.looks (show PVs F G2 σ [v, w] [p1, p2] from ⟨pv.mono x2, pv2, trivial⟩) hl, ho, fun z G' H' g res => ⟨true, Rep.bl' res.1, ?_⟩⟩
          rw [if_pos rfl]
          refine ⟨F, G', s2, hK, hC, R2.grow g, ?_⟩
          cases hm3 : evP E c s2 with
          | ok p3 s3 =>
            rw [hm3] at P
            exact fun u G3 H3 x3 R3 pv3 => op_last hK hC (((x1.trans x2).trans g.g).trans x3) R3 (show PVs F G3 σ [w, u] [p2, p3] from ⟨(pv2.mono g.g).mono x3, pv3, trivial⟩) P
          | ex c p s1 => rw [hm3] at P; exact exW.mono ((x1.trans x2).trans g.g) P
          | bad => rw [hm3] at P; exact P
        · rename_i ho
          refine ⟨F, G2, σ, s2, ds, _, hK, hC, R2, R2.looks (show PVs F G2 σ [v, w] [p1, p2] from ⟨pv.mono x2, pv2, trivial⟩) hl, ho, fun z G' H' g res => ⟨false, Rep.bl' res.1, ?_⟩⟩
          rw [if_neg Bool.false_ne_true]
          exact P _ G' H' ((x1.trans x2).trans g.g) (R2.grow g) (Res.shr (.bl false))
        · exact P.elim
    | ex c p s1 => rw [hm2] at P; exact exW.mono x1 P
    | bad => rw [hm2] at P; exact P
  | ex c p s1 => rw [hm] at P; exact P
  | bad => rw [hm] at P; exact P
theorem s_and {a b : Den.X} {v w : Expr} {rest : List Expr} {pos : Pos} (h1 : PE X v (denE X.K CA W (evX E a))) (h2 : PE X (.BoolOp .And (w :: rest) pos) (denE X.K CA W (evX E b))) : PE X (.BoolOp .And (v :: w :: rest) pos) (denE X.K CA W (evX E (.and a b))) := by
  refine (pe_and h1 h2).imp fun σ H Q ⟨F, G, s, hK, hC, R, P⟩ => ⟨F, G, s, hK, hC, R, ?_⟩
  have P : PostE F G σ W Q ((evX E a s).bind fun v s1 => match v with
    | .shr (.bl true) => evX E b s1
    | .shr (.bl false) => .ok (.shr (.bl false)) s1
    | _ => .bad) := P
  cases hm : evX E a s with
  | ok y s1 =>
    rw [hm] at P
    intro x G1 H1 x1 R1 res
    rw [show ∀ f, (Out.ok y s1 : Out SV).bind f = f y s1 from fun _ => rfl] at P
    split at P
    · refine ⟨true, Rep.bl' res.1, ?_⟩
      rw [if_pos rfl]
      exact ⟨F, G1, s1, hK, hC, R1, P.mono x1⟩
    · refine ⟨false, Rep.bl' res.1, ?_⟩
      rw [if_neg Bool.false_ne_true]
      exact P _ G1 H1 x1 R1 (Res.shr (.bl false))
    · exact P.elim
  | ex c p s1 => rw [hm] at P; exact P
  | bad => rw [hm] at P; exact P
theorem s_or {a b : Den.X} {v w : Expr} {rest : List Expr} {pos : Pos} (h1 : PE X v (denE X.K CA W (evX E a))) (h2 : PE X (.BoolOp .Or (w :: rest) pos) (denE X.K CA W (evX E b))) : PE X (.BoolOp .Or (v :: w :: rest) pos) (denE X.K CA W (evX E (.or a b))) := by
  refine (pe_or h1 h2).imp fun σ H Q ⟨F, G, s, hK, hC, R, P⟩ => ⟨F, G, s, hK, hC, R, ?_⟩
  have P : PostE F G σ W Q ((evX E a s).bind fun v s1 => match v with
    | .shr (.bl false) => evX E b s1
    | .shr (.bl true) => .ok (.shr (.bl true)) s1
    | _ => .bad) := P
  cases hm : evX E a s with
  | ok y s1 =>
    rw [hm] at P
    intro x G1 H1 x1 R1 res
    rw [show ∀ f, (Out.ok y s1 : Out SV).bind f = f y s1 from fun _ => rfl] at P
    split at P
    · refine ⟨false, Rep.bl' res.1, ?_⟩
      rw [if_neg Bool.false_ne_true]
      exact ⟨F, G1, s1, hK, hC, R1, P.mono x1⟩
    · refine ⟨true, Rep.bl' res.1, ?_⟩
      rw [if_pos rfl]
      exact P _ G1 H1 x1 R1 (Res.shr (.bl true))
    · exact P.elim
  | ex c p s1 => rw [hm] at P; exact P
  | bad => rw [hm] at P; exact P
theorem s_not {a : Den.X} {v : Expr} {pos : Pos} (h1 : PE X v (denE X.K CA W (evX E a))) : PE X (.UnaryOp .Not v pos) (denE X.K CA W (evX E (.not a))) := by
  refine (pe_not h1).imp fun σ H Q ⟨F, G, s, hK, hC, R, P⟩ => ⟨F, G, s, hK, hC, R, ?_⟩
  have P : PostE F G σ W Q ((evX E a s).bind fun v s1 => match v with
    | .shr (.bl b) => .ok (.shr (.bl (!b))) s1
    | _ => .bad) := P
  cases hm : evX E a s with
  | ok y s1 =>
    rw [hm] at P
    intro x G1 H1 x1 R1 res
    rw [show ∀ f, (Out.ok y s1 : Out SV).bind f = f y s1 from fun _ => rfl] at P
    split at P
    · rename_i b
      exact ⟨b, Rep.bl' res.1, P _ G1 H1 x1 R1 (Res.shr (.bl _))⟩
    · exact P.elim
  | ex c p s1 => rw [hm] at P; exact P
  | bad => rw [hm] at P; exact P
theorem s_ite {t : T} {a b : Den.X} {c l r : Expr} {pos : Pos} (ht : PT X c (denT X.K CA W (evT E t))) (h1 : PE X l (denE X.K CA W (evX E a))) (h2 : PE X r (denE X.K CA W (evX E b))) : PE X (.IfExp c l r pos) (denE X.K CA W (evX E (.ite t a b))) := by
  refine (pe_ifExp ht h1 h2).imp fun σ H Q ⟨F, G, s, hK, hC, R, P⟩ => ⟨F, G, s, hK, hC, R, ?_⟩
  have P : PostE F G σ W Q ((evT E t s).bind fun c s1 => if c = true then evX E a s1 else evX E b s1) := P
  cases hm : evT E t s with
  | ok y s1 =>
    rw [hm] at P
    intro G1 H1 x1 R1
    rw [show ∀ f, (Out.ok y s1 : Out Bool).bind f = f y s1 from fun _ => rfl] at P
    cases y with
    | true =>
      rw [if_pos rfl] at P ⊢
      exact ⟨F, G1, s1, hK, hC, R1, P.mono x1⟩
    | false =>
      rw [if_neg Bool.false_ne_true] at P ⊢
      exact ⟨F, G1, s1, hK, hC, R1, P.mono x1⟩
  | ex c p s1 => rw [hm] at P; exact P
  | bad => rw [hm] at P; exact P
/-! calls -/
theorem bindval_nobr {r : Out SV} {s : S} {p : PV} (h : (r.bind fun v s1 => match v.d with | some d => (Out.ok (PV.val d) s1 : Out PV) | none => .bad) = .ok p s) (k : Nat) : p ≠ .br k := by
  intro e
  subst e
  cases r with
  | ok v s2 =>
    have h : (match v.d with | some d => (Out.ok (PV.val d) s2 : Out PV) | none => .bad) = .ok (.br k) s := h
    split at h <;> cases h
  | ex c p s2 => cases h
  | bad => cases h
theorem pvs_nobr {m : Den.X} {E : Env} {s s1 : S} {p : PV} (h : evP E m s = .ok p s1) : ∀ k, p ≠ .br k := by
  intro k
  unfold evP at h
  unfold pvOf at h
  split at h
  · split at h
    · cases h; intro e; cases e
    · cases h
  · exact bindval_nobr h k
theorem evPs_nobr {E : Env} : ∀ {xs : XS} {s s1 : S} {ps : List PV}, evPs E xs s = .ok ps s1 → ∀ p ∈ ps, ∀ k, p ≠ .br k
  | .nil, s, s1, ps, h => by
    have h : Out.ok [] s = .ok ps s1 := h
    cases h
    intro p hp; cases hp
  | .cons x xs, s, s1, ps, h => by
    have h : ((evP E x s).bind fun p s1 => (evPs E xs s1).bind fun ps s2 => .ok (p :: ps) s2) = .ok ps s1 := h
    cases hx : evP E x s with
    | ok p s2 =>
      rw [hx] at h
      have h : ((evPs E xs s2).bind fun ps s2 => .ok (p :: ps) s2) = .ok ps s1 := h
      cases hxs : evPs E xs s2 with
      | ok qs s3 =>
        rw [hxs] at h
        have h : Out.ok (p :: qs) s3 = .ok ps s1 := h
        cases h
        intro q hq
        rcases List.mem_cons.mp hq with rfl | hq
        · exact pvs_nobr hx
        · exact evPs_nobr hxs q hq
      | ex c p s2 => rw [hxs] at h; cases h
      | bad => rw [hxs] at h; cases h
    | ex c p s2 => rw [hx] at h; cases h
    | bad => rw [hx] at h; cases h
theorem s_call (C : Ctx X Tb N sc fnb n E CA W) {f : Nat} {I : FI} {ms : List Bool} {xs : XS} {e : Expr} {es : List Expr} {p pos : Pos} (hI : Tb.fs[f]? = some I) (hg : glB sc I.name = true) (pl : plains (e :: es) = true) (ha : PA X (e :: es) (denPs X.K CA W (evPs E xs))) :
    PE X (.Call (.Name I.name p) (e :: es) [] pos) (denE X.K CA W (evX E (.call f ms xs))) := by
  obtain ⟨g, ok⟩ := C.gl hg
  obtain ⟨d1, d2, d3⟩ := okName_dbg ok
  unfold plains at pl
  rw [Bool.and_eq_true] at pl
  refine (My.pcallX (C.tab.fns f I hI) C.room C.tk ha (Nat.le_refl _) g d1 (star_of pl.1 _ _) (any_of pl.2)).imp fun σ H Q ⟨F, G, s, hK, hC, R, P⟩ => ⟨F, G, s, hK, hC, R, ?_⟩
  have P : PostE F G σ W Q ((evPs E xs s).bind fun ps s1 => callRun E f ms ps s1) := P
  cases hm : evPs E xs s with
  | ok ps s1 =>
    rw [hm] at P
    intro vs G1 H1 x1 R1 pvs
    have := call_ok R1 x1 pvs (evPs_nobr hm) P
    rw [hK, hC] at this
    exact this
  | ex c p s1 => rw [hm] at P; exact P
  | bad => rw [hm] at P; exact P
end
end Den
set_option Elab.async false
set_option linter.all false
set_option maxRecDepth 100000
set_option autoImplicit false
set_option maxHeartbeats 4000000
namespace Den
open PySem PySem.Spec PyProof.Rows L2
section
variable {F : Fr} {G H G' H' : Hp} {σ : L2.St} {s s' : S}
/-! ### an object that no name holds, kept from change -/
def Fr.pin (F : Fr) (D : Addr) (o : HO) : Fr := { F with H0 := upd F.H0 D o }
theorem RS.apart (R : RS F G H σ s) {D : Addr} (hn : F.H0 D = none) : D ∉ F.rs := fun m => by
  obtain ⟨u, hu⟩ := R.lent D m
  rw [hn] at hu; cases hu
/-- no name holds it -/
def NoSlot (σ : L2.St) (s : S) (D : Addr) : Prop := ∀ (i : Nat) (y : SV), s.env[i]? = some (some y) → y.mutb = true → σ[i]? ≠ some (some (.ref D))
theorem RS.pin (R : RS F G H σ s) {D : Addr} {o : HO} (hn : F.H0 D = none) (hg : G D = none) (hd : H D = some o) (ns : NoSlot σ s D) : RS (F.pin D o) G H σ s where
  len := R.len
  bh := fun a u e => by
    have hne : a ≠ D := fun z => by
      subst z
      have := R.bg _ _ e
      rw [hg] at this; cases this
    show upd F.H0 D o a = some u
    rw [upd_ne hne]
    exact R.bh a u e
  nd := R.nd
  lent := fun p hp => by
    obtain ⟨u, hu⟩ := R.lent p hp
    refine ⟨u, ?_⟩
    show upd F.H0 D o p = some u
    rw [upd_ne (fun z => R.apart hn (by rw [← z]; exact hp))]
    exact hu
  keep := fun a u m e => by
    have e : upd F.H0 D o a = some u := e
    by_cases z : a = D
    · subst z; rw [upd_same] at e; cases e; exact hd
    · rw [upd_ne z] at e; exact R.keep a u m e
  bg := R.bg
  gh := R.gh
  fresh := fun a h => by
    have hne : a ≠ D := fun z => by subst z; exact h hg
    rcases R.fresh a h with q | q
    · exact .inl q
    · refine .inr ?_
      show upd F.H0 D o a = none
      rw [upd_ne hne]; exact q
  blen := R.blen
  bors := R.bors
  slots := fun i x e => by
    obtain ⟨v, e1, sl⟩ := R.slots i x e
    refine ⟨v, e1, ?_⟩
    cases x with
    | shr d => exact sl
    | bor k => exact sl
    | own d =>
      obtain ⟨p, rfl, o1, n, z⟩ := sl
      refine ⟨p, rfl, o1, n, ?_⟩
      show upd F.H0 D o p = none
      rw [upd_ne (fun w => ns i _ e rfl (by rw [e1, w]))]
      exact z
  inj := R.inj
theorem RS.unpin {D : Addr} {o : HO} (hn : F.H0 D = none) (hb : F.B D = none) (hr : D ∉ F.rs) (R : RS (F.pin D o) G H σ s) : RS F G H σ s ∧ G D = none ∧ H D = some o ∧ NoSlot σ s D := by
  have hg : G D = none := by
    cases q : G D with
    | none => rfl
    | some u =>
      rcases R.fresh D (by rw [q]; exact fun z => nomatch z) with w | w
      · exact absurd hb w
      · have : upd F.H0 D o D = none := w
        rw [upd_same] at this; cases this
  have he : ∀ a u, F.H0 a = some u → (F.pin D o).H0 a = some u := fun a u e => by
    show upd F.H0 D o a = some u
    rw [upd_ne (ne_of_none e hn)]; exact e
  refine ⟨⟨R.len, fun a u e => ?_, R.nd, fun p hp => ?_, fun a u m e => R.keep a u m (he a u e), R.bg, R.gh, fun a h => ?_, R.blen, R.bors, fun i x e => ?_, R.inj⟩, hg, R.keep D o hr upd_same, fun i y e m q => ?_⟩
  · have := R.bh a u e
    have this : upd F.H0 D o a = some u := this
    rw [upd_ne (ne_of_none e hb)] at this
    exact this
  · obtain ⟨u, hu⟩ := R.lent p hp
    have hu : upd F.H0 D o p = some u := hu
    rw [upd_ne (fun z => hr (by rw [← z]; exact hp))] at hu
    exact ⟨u, hu⟩
  · rcases R.fresh a h with q | q
    · exact .inl q
    · refine .inr ?_
      have q : upd F.H0 D o a = none := q
      by_cases z : a = D
      · subst z; rw [upd_same] at q; cases q
      · rw [upd_ne z] at q; exact q
  · obtain ⟨v, e1, sl⟩ := R.slots i x e
    refine ⟨v, e1, ?_⟩
    cases x with
    | shr d => exact sl
    | bor k => exact sl
    | own d =>
      obtain ⟨p, rfl, o1, n, z⟩ := sl
      have z : upd F.H0 D o p = none := z
      refine ⟨p, rfl, o1, n, ?_⟩
      by_cases w : p = D
      · subst w; rw [upd_same] at z; cases z
      · rw [upd_ne w] at z; exact z
  · obtain ⟨v, e1, sl⟩ := R.slots i y e
    rw [e1] at q
    cases q
    cases y with
    | shr d => cases m
    | bor k =>
      obtain ⟨p, e2, e3⟩ := sl
      cases e3
      exact hr (List.mem_of_getElem? e2)
    | own d =>
      obtain ⟨p, e2, _, _, z⟩ := sl
      cases e2
      have z : upd F.H0 D o D = none := z
      rw [upd_same] at z; cases z
/-- an object that no name holds is changed -/
theorem RS.other (R : RS F G H σ s) {D : Addr} {o : HO} (hn : F.H0 D = none) (hg : G D = none) (ns : NoSlot σ s D) : RS F G (upd H D o) σ s where
  len := R.len
  bh := R.bh
  nd := R.nd
  lent := R.lent
  keep := fun a u m e => by rw [upd_ne (ne_of_none e hn)]; exact R.keep a u m e
  bg := R.bg
  gh := Ex.upd_free R.gh hg
  fresh := R.fresh
  blen := R.blen
  bors := fun k p d e1 e2 => by
    obtain ⟨o1, n⟩ := R.bors k p d e1 e2
    have hne : p ≠ D := fun z => R.apart hn (by rw [← z]; exact List.mem_of_getElem? e1)
    exact ⟨o1.mono (Evl.Ex.refl _) fun u q => by rw [upd_ne hne]; exact q, n⟩
  slots := fun i x e => by
    obtain ⟨v, e1, sl⟩ := R.slots i x e
    refine ⟨v, e1, ?_⟩
    cases x with
    | shr d => exact sl
    | bor k => exact sl
    | own d =>
      obtain ⟨p, rfl, o1, n, z⟩ := sl
      have hne : p ≠ D := fun w => ns i _ e rfl (by rw [e1, w])
      exact ⟨p, rfl, o1.mono (Evl.Ex.refl _) fun u q => by rw [upd_ne hne]; exact q, n, z⟩
  inj := R.inj
/-! ### targets -/
theorem wipe_set {i : Nat} {v : Option V} : ∀ {is : List Nat} {σ : L2.St}, i ∈ is → L2.wipe (σ.set i v) is = L2.wipe σ is
  | [], _, h => by cases h
  | j :: is, σ, h => by
    unfold L2.wipe
    by_cases e : i ∈ is
    · rw [wipe_set e]
    · have hj : i = j := by
        rcases List.mem_cons.mp h with h | h
        · exact h
        · exact absurd h e
      subst hj
      -- the set is overwritten
      have comm : ∀ (ks : List Nat) (τ : L2.St), i ∉ ks → L2.wipe (τ.set i v) ks = (L2.wipe τ ks).set i v := by
        intro ks
        induction ks with
        | nil => intro τ _; rfl
        | cons k ks ih =>
          intro τ hk
          simp only [List.mem_cons, not_or] at hk
          unfold L2.wipe
          rw [ih τ hk.2, List.set_comm _ _ hk.1]
      rw [comm is σ e, List.set_set]
end
def gDen (K : PySem.W.Frag) (CA : Nat → Option Addr) (t : Tg) : TG := fun v σ H Q => ∃ F G s d s', F.K = K ∧ F.CA = CA ∧ RS F G H σ s ∧ Rep F.K F.CA G v d ∧ S.asg t d s = some s' ∧
  ∀ σ' G' H', Ex G G' → RS F G' H' σ' s' → (∀ vs, tgIn vs t = true → L2.wipe σ' vs = L2.wipe σ vs) → Q σ' H'
def gsDen (K : PySem.W.Frag) (CA : Nat → Option Addr) (ts : List Tg) : TGs := fun vs σ H Q => ∃ F G s ds s', F.K = K ∧ F.CA = CA ∧ RS F G H σ s ∧ Reps F.K F.CA G vs ds ∧ S.asgs ts ds s = some s' ∧
  ∀ σ' G' H', Ex G G' → RS F G' H' σ' s' → (∀ vs, tgsIn vs ts = true → L2.wipe σ' vs = L2.wipe σ vs) → Q σ' H'
section
variable {X : Cx} {Tb : Tab} {N : List Str} {sc : Scope} {fnb : Str → Bool} {n : Nat} {E : Env} {CA : Nat → Option Addr} {W : WX}
theorem _root_.L2.PG.imp {e : Expr} {t t' : TG} (h : PG X e t) (i : ∀ v σ H Q, t' v σ H Q → t v σ H Q) : PG X e t' := ⟨fun pins s σ H v u Q I r q => h.run pins s σ H v u Q I r (i v σ H Q q)⟩
theorem _root_.L2.PGs.imp {e : List Expr} {t t' : TGs} (h : PGs X e t) (i : ∀ v σ H Q, t' v σ H Q → t v σ H Q) : PGs X e t' := ⟨fun pins s σ H v u Q I r q => h.run pins s σ H v u Q I r (i v σ H Q q)⟩
theorem each_of {env : PySem.Env} : ∀ {es : List Expr} {ts : List Tg}, chkTgs N sc fnb ts es = true → (assignEach es env).length = ts.length ∧ (assignEach es env).findIdx? (·.1) = none
  | [], [], _ => ⟨rfl, rfl⟩
  | e :: es, t :: ts, h => by
    unfold chkTgs at h
    rw [Bool.and_eq_true, Bool.and_eq_true] at h
    obtain ⟨a, b⟩ := each_of (env := env) h.2
    have : assignEach (e :: es) env = (false, assign e env) :: assignEach es env := by
      cases e <;> first | rfl | (exact Bool.noConfusion h.1.1)
    rw [this]
    refine ⟨by simp [a], ?_⟩
    rw [List.findIdx?_cons]
    simp [b]
  | [], _ :: _, h => by simp [chkTgs] at h
  | _ :: _, [], h => by simp [chkTgs] at h
mutual
theorem sTg (C : Ctx X Tb N sc fnb n E CA W) : ∀ (t : Tg) (e : Expr), chkTg N sc fnb t e = true → PG X e (gDen X.K CA t)
  | .nm i, e, h => by
    cases e <;> first | (simp [chkTg] at h; done) | skip
    rename_i x pos
    unfold chkTg at h
    rw [Bool.and_eq_true, Bool.and_eq_true, decide_eq_true_eq, Bool.or_eq_true, Bool.and_eq_true, decide_eq_true_eq, decide_eq_true_eq] at h
    obtain ⟨⟨h1, h2⟩, h3⟩ := h
    have hl : Loc X.env.scope x := by
      rw [C.hsc]
      rcases h3 with h3 | h3
      · exact .inl h3
      · exact .inr h3.1
    have hf : X.fn x = true ∨ X.env.scope.names.lookup x = some .local := by
      rcases h3 with h3 | h3
      · exact .inr (by rw [C.hsc]; exact h3)
      · exact .inl (by rw [C.hfn]; exact h3.2)
    refine (pg_name (by rw [C.hN]; exact C.nd) (by rw [C.hN]; exact h2) hl hf).imp fun v σ H Q ⟨F, G, s, d, s', hK, hC, R, r, ha, P⟩ => ?_
    cases ha
    exact P _ G H (Evl.Ex.refl _) (R.put (Res.shr r)) fun vs hv => wipe_set (List.contains_iff_mem.mp hv)
  | .tup ts, e, h => by
    cases e <;> first | (simp [chkTg] at h; done) | skip
    rename_i es k pos
    have h : chkTgs N sc fnb ts es = true := h
    obtain ⟨e1, e2⟩ := each_of (env := X.env) h
    refine (pg_tup C.calm (sTgs C ts es h) e1 e2).imp fun v σ H Q ⟨F, G, s, d, s', hK, hC, R, r, ha, P⟩ => ?_
    cases d <;> first | (cases ha; done) | skip
    rename_i ds
    have ha : S.asgs ts ds s = some s' := ha
    obtain ⟨p, vs, rfl, h1, r1⟩ := (Pk.g r : Pk F G H v _).tup R.gh
    have hlen : ds.length = ts.length := by
      have : ∀ {ts : List Tg} {ds : List D} {s s' : S}, S.asgs ts ds s = some s' → ds.length = ts.length := by
        intro ts
        induction ts with
        | nil => intro ds s s' h; cases ds with
          | nil => rfl
          | cons _ _ => cases h
        | cons t ts ih => intro ds s s' h; cases ds with
          | nil => cases h
          | cons d ds =>
            have h : ((S.asg t d s).bind fun s' => S.asgs ts ds s') = some s' := h
            cases hq : S.asg t d s with
            | none => rw [hq] at h; cases h
            | some s2 => rw [hq] at h; simp [ih (show S.asgs ts ds s2 = some s' from h)]
      exact this ha
    rw [hK] at h1
    exact ⟨p, vs, rfl, h1, by rw [r1.length]; exact hlen, F, G, s, ds, s', hK, hC, R, r1, ha, P⟩
theorem sTgs (C : Ctx X Tb N sc fnb n E CA W) : ∀ (ts : List Tg) (es : List Expr), chkTgs N sc fnb ts es = true → PGs X es (gsDen X.K CA ts)
  | [], es, h => by
    cases es with
    | cons _ _ => simp [chkTgs] at h
    | nil =>
      refine pgs_nil.imp fun vs σ H Q ⟨F, G, s, ds, s', hK, hC, R, r, ha, P⟩ => ?_
      cases ds with
      | cons _ _ => cases ha
      | nil =>
        cases r
        cases ha
        exact ⟨rfl, P σ G H (Evl.Ex.refl _) R fun _ _ => rfl⟩
  | t :: ts, es, h => by
    cases es with
    | nil => simp [chkTgs] at h
    | cons e es =>
      unfold chkTgs at h
      rw [Bool.and_eq_true, Bool.and_eq_true] at h
      refine (pgs_cons (sTg C t e h.1.2) (sTgs C ts es h.2) (by
        have : ∀ env, assignEach (e :: es) env = (false, assign e env) :: assignEach es env := fun env => by
          cases e <;> first | rfl | (exact Bool.noConfusion h.1.1)
        rw [this]; rfl)).imp fun vs σ H Q ⟨F, G, s, ds, s', hK, hC, R, r, ha, P⟩ => ?_
      cases ds with
      | nil => cases ha
      | cons d ds =>
        cases r with
        | cons r1 r2 =>
          have ha : ((S.asg t d s).bind fun s' => S.asgs ts ds s') = some s' := ha
          cases hq : S.asg t d s with
          | none => rw [hq] at ha; cases ha
          | some s2 =>
            rw [hq] at ha
            refine ⟨_, _, rfl, F, G, s, d, s2, hK, hC, R, r1, hq, fun σ1 G1 H1 x1 R1 w1 => ⟨F, G1, s2, ds, s', hK, hC, R1, r2.mono x1, ha, fun σ2 G2 H2 x2 R2 w2 => P σ2 G2 H2 (x1.trans x2) R2 fun vs hv => ?_⟩⟩
            unfold tgsIn at hv
            rw [Bool.and_eq_true] at hv
            rw [w2 vs hv.2, w1 vs hv.1]
end
end
end Den
set_option Elab.async false
set_option linter.all false
set_option maxRecDepth 100000
set_option autoImplicit false
set_option maxHeartbeats 4000000
namespace Den
open PySem PySem.Spec PyProof.Rows L2
theorem ite_some {α : Type} {c : Prop} [Decidable c] {a b : α} (h : (if c then some a else none) = some b) : c ∧ a = b := by
  split at h
  · cases h; exact ⟨by assumption, rfl⟩
  · cases h
/-! ### methods that change -/
def rMu (K : PySem.W.Frag) (CA : Nat → Option Addr) (m : Mu) (i : Nat) : V → List V → Hp → VK → Prop := fun x vs H Q => ∃ F G σ s ds d0 d r s2, F.K = K ∧ F.CA = CA ∧ RS F G H σ s ∧ σ[i]? = some (some x) ∧ Reps F.K F.CA G vs ds ∧ s.look (.at i) = some d0 ∧ muSem m d0 ds = some (d, r) ∧ s.store i d = some s2 ∧
  ∀ v H', RS F G H' σ s2 → Rep F.K F.CA G v r → Q v H'
section
variable {X : Cx} {CA : Nat → Option Addr}
/-- the list that a name holds -/
theorem mu_list {F : Fr} {G H : Hp} {σ : L2.St} {s s2 : S} {i : Nat} {x : V} {xs : List D} {d : D} (R : RS F G H σ s) (hx : σ[i]? = some (some x)) (hl : s.look (.at i) = some (.lst xs)) (hs : s.store i d = some s2) :
    ∃ p vs, x = .ref p ∧ H p = some (.lst vs) ∧ Reps F.K F.CA G vs xs ∧ ∀ (ys : List D) (ws : List V), d = .lst ys → Reps F.K F.CA G ws ys → RS F G (upd H p (.lst ws)) σ s2 := by
  obtain ⟨p, vs, rfl, h1, r1⟩ := (R.look (show PVOk F G σ x (.at i) from hx) hl).lst R.gh
  obtain ⟨p', e1, n, k⟩ := R.store hs
  rw [hx] at e1
  cases e1
  refine ⟨p, vs, rfl, h1, r1, fun ys ws hd hw => ?_⟩
  subst hd
  exact k _ (.lst upd_same hw)
theorem m_append {i : Nat} : MtR X "list.append" (rMu X.K CA .append i) := by
  intro pins s σ H x vs v us Q I rx rv ⟨F, G, σ', s', ds, d0, d, r, s2, hK, hC, R, hx, hr, hl, hm, hs, q⟩
  cases d0 <;> first | (cases hm; done) | skip
  rename_i xs
  match ds, hm with
  | [e], hm =>
    obtain ⟨hz, hm⟩ := ite_some (show (if xs.length < lim then some (D.lst (xs ++ [e]), D.non) else none) = some (d, r) from hm)
    cases hm
    obtain ⟨p, ws, rfl, h1, r1, k⟩ := mu_list R hx hl hs
    cases hr with
    | cons ra rt =>
      cases rt
      exact mt_append pins s σ H _ _ v us Q I rx rv ⟨p, ws, _, rfl, rfl, h1, by rw [r1.length]; exact szl hz, q _ _ (k _ _ rfl (r1.append (.one ra))) .non⟩
theorem m_reverse {i : Nat} : MtR X "list.reverse" (rMu X.K CA .reverse i) := by
  intro pins s σ H x vs v us Q I rx rv ⟨F, G, σ', s', ds, d0, d, r, s2, hK, hC, R, hx, hr, hl, hm, hs, q⟩
  cases d0 <;> first | (cases hm; done) | skip
  match ds, hm with
  | [], hm =>
    cases hm
    obtain ⟨p, ws, rfl, h1, r1, k⟩ := mu_list R hx hl hs
    cases hr
    exact mt_reverse pins s σ H _ _ v us Q I rx rv ⟨p, ws, rfl, rfl, h1, q _ _ (k _ _ rfl r1.reverse) .non⟩
theorem m_clear {i : Nat} : MtR X "list.clear" (rMu X.K CA .clear i) := by
  intro pins s σ H x vs v us Q I rx rv ⟨F, G, σ', s', ds, d0, d, r, s2, hK, hC, R, hx, hr, hl, hm, hs, q⟩
  cases d0 <;> first | (cases hm; done) | skip
  match ds, hm with
  | [], hm =>
    cases hm
    obtain ⟨p, ws, rfl, h1, r1, k⟩ := mu_list R hx hl hs
    cases hr
    exact mt_clear pins s σ H _ _ v us Q I rx rv ⟨p, ws, rfl, rfl, h1, q _ _ (k _ _ rfl .nil) .non⟩
theorem m_pop {i : Nat} : MtR X "list.pop" (rMu X.K CA .pop i) := by
  intro pins s σ H x vs v us Q I rx rv ⟨F, G, σ', s', ds, d0, d, r, s2, hK, hC, R, hx, hr, hl, hm, hs, q⟩
  cases d0 <;> first | (cases hm; done) | skip
  rename_i xs
  match ds, hm with
  | [], hm =>
    have hm : ((xs.getLast?).map fun e => (D.lst xs.dropLast, e)) = some (d, r) := hm
    cases hg : xs.getLast? with
    | none => rw [hg] at hm; cases hm
    | some e =>
      rw [hg] at hm
      cases hm
      obtain ⟨p, ws, rfl, h1, r1, k⟩ := mu_list R hx hl hs
      cases hr
      rw [List.getLast?_eq_getElem?] at hg
      obtain ⟨w, w1, w2⟩ := r1.get hg
      exact mt_pop pins s σ H _ _ v us Q I rx rv ⟨p, ws, w, rfl, rfl, h1, by rw [r1.length]; exact w1, q _ _ (k _ _ rfl r1.dropLast) w2⟩
theorem m_popat {i : Nat} : MtR X "list.pop" (rMu X.K CA .popat i) := by
  intro pins s σ H x vs v us Q I rx rv ⟨F, G, σ', s', ds, d0, d, r, s2, hK, hC, R, hx, hr, hl, hm, hs, q⟩
  cases d0 <;> first | (cases hm; done) | skip
  rename_i xs
  match ds, hm with
  | [.int j], hm =>
    have hm : (if 0 ≤ j ∧ j < xs.length ∧ j < 2 ^ 62 then (xs[j.toNat]?).map fun e => (D.lst (xs.eraseIdx j.toNat), e) else none) = some (d, r) := hm
    split at hm
    · rename_i hj
      cases hg : xs[j.toNat]? with
      | none => rw [hg] at hm; cases hm
      | some e =>
        rw [hg] at hm
        cases hm
        obtain ⟨p, ws, rfl, h1, r1, k⟩ := mu_list R hx hl hs
        cases hr with
        | cons ra rt =>
          cases ra
          cases rt
          obtain ⟨w, w1, w2⟩ := r1.get hg
          refine mt_popAt pins s σ H _ _ v us Q I rx rv ⟨p, ws, j, j.toNat, w, rfl, rfl, h1, by omega, by omega, ?_, w1, q _ _ (k _ _ rfl (r1.eraseIdx _)) w2⟩
          unfold seqIndex?
          rw [r1.length]
          have h0 : ¬ j < 0 := by omega
          simp [h0, hj.1, hj.2.1]
    · cases hm
theorem insert_eq {α : Type} (x : α) : ∀ (k : Nat) (xs : List α), k ≤ xs.length → xs.insertIdx k x = xs.take k ++ [x] ++ xs.drop k
  | 0, xs, _ => by simp
  | k + 1, [], h => by simp at h
  | k + 1, y :: xs, h => by
    rw [List.insertIdx_succ_cons, insert_eq x k xs (by simpa using h)]
    simp
theorem m_insert {i : Nat} : MtR X "list.insert" (rMu X.K CA .insert i) := by
  intro pins s σ H x vs v us Q I rx rv ⟨F, G, σ', s', ds, d0, d, r, s2, hK, hC, R, hx, hr, hl, hm, hs, q⟩
  cases d0 <;> first | (cases hm; done) | skip
  rename_i xs
  match ds, hm with
  | [.int j, e], hm =>
    obtain ⟨hj, hm⟩ := ite_some (show (if 0 ≤ j ∧ j ≤ xs.length ∧ xs.length < lim then some (D.lst (xs.insertIdx j.toNat e), D.non) else none) = some (d, r) from hm)
    cases hm
    obtain ⟨p, ws, rfl, h1, r1, k⟩ := mu_list R hx hl hs
    cases hr with
    | cons ra rt =>
      cases ra
      cases rt with
      | cons rb rt =>
        cases rt
        have hlen := r1.length
        have hlim : lim = 1000000 := rfl
        refine mt_insert pins s σ H _ _ v us Q I rx rv ⟨p, ws, j, _, rfl, rfl, h1, by rw [hlen]; exact szl hj.2.2, hj.1, by omega, ?_⟩
        rw [← insert_eq _ _ _ (by omega)]
        exact q _ _ (k _ _ rfl (r1.insertIdx rb _)) .non
theorem m_extend {i : Nat} : MtR X "list.extend" (rMu X.K CA .extend i) := by
  intro pins s σ H x vs v us Q I rx rv ⟨F, G, σ', s', ds, d0, d, r, s2, hK, hC, R, hx, hr, hl, hm, hs, q⟩
  cases d0 <;> first | (cases hm; done) | skip
  rename_i xs
  match ds, hm with
  | [.lst ys], hm =>
    obtain ⟨hz, hm⟩ := ite_some (show (if xs.length + ys.length ≤ lim then some (D.lst (xs ++ ys), D.non) else none) = some (d, r) from hm)
    cases hm
    obtain ⟨p, ws, rfl, h1, r1, k⟩ := mu_list R hx hl hs
    cases hr with
    | cons ra rt =>
      cases rt
      cases ra with
      | lst h2 r2 =>
        exact mt_extend pins s σ H _ _ v us Q I rx rv ⟨p, _, ws, _, rfl, rfl, h1, R.gh _ _ h2, by rw [r1.length, r2.length]; exact sz hz, q _ _ (k _ _ rfl (r1.append r2)) .non⟩
end
section
variable {X : Cx} {Tb : Tab} {N : List Str} {sc : Scope} {fnb : Str → Bool} {n : Nat} {E : Env} {CA : Nat → Option Addr} {W : WX}
theorem s_mut_imp {m : Mu} {i : Nat} {xs : XS} {σ : L2.St} {H : Hp} {Q : VK} (h : denE X.K CA W (evX E (.mut m i xs)) σ H Q) : tBM X.K "list" (rMu X.K CA m i) (tVar i) (denMs X.K CA W (evMs E xs)) σ H Q := by
  obtain ⟨F, G, s, hK, hC, R, P⟩ := h
  have P : PostE F G σ W Q (match s.look (.at i) with
    | some (.lst _) => (evMs E xs s).bind fun ds s1 => match (s1.look (.at i)).bind fun d => muSem m d ds with
      | some (d, r) => match s1.store i d with
        | some s2 => .ok (.shr r) s2
        | none => .bad
      | none => .bad
    | _ => .bad) := P
  split at P
  · rename_i ys hl0
    have hsl : ∃ y, s.slot i = some y := by
      have hl0 : (s.slot i).bind s.data = some (.lst ys) := hl0
      cases hs : s.slot i with
      | none => rw [hs] at hl0; cases hl0
      | some y => exact ⟨y, rfl⟩
    obtain ⟨y, hy⟩ := hsl
    obtain ⟨v, e1, _⟩ := R.slots i y (slot_env hy)
    obtain ⟨p, vs, rfl, h1, r1⟩ := (R.look (show PVOk F G σ v (.at i) from e1) hl0).lst R.gh
    refine ⟨.ref p, e1, .inl ⟨rfl, _, SqL.of h1⟩, F, G, s, hK, hC, R, ?_⟩
    cases hm : evMs E xs s with
    | ok ds s1 =>
      rw [hm] at P
      intro ws G1 H1 x1 R1 rs
      rw [show ∀ f, (Out.ok ds s1 : Out (List D)).bind f = f ds s1 from fun _ => rfl] at P
      cases hl : s1.look (.at i) with
      | none => rw [hl] at P; exact P.elim
      | some d0 =>
        rw [hl] at P
        have P : PostE F G σ W Q (match muSem m d0 ds with
          | some (d, r) => match s1.store i d with
            | some s2 => .ok (.shr r) s2
            | none => .bad
          | none => .bad) := P
        split at P
        · rename_i d r hmu
          split at P
          · rename_i s2 hst
            exact ⟨F, G1, σ, s1, ds, d0, d, r, s2, hK, hC, R1, e1, rs, hl, hmu, hst, fun v' H' R2 rr => P v' G1 H' x1 R2 (Res.shr rr)⟩
          · exact P.elim
        · exact P.elim
    | ex c p s1 => rw [hm] at P; exact P
    | bad => rw [hm] at P; exact P
  · exact P.elim
theorem attr_name {x : Str} {p : Pos} (nm : Str) (env : PySem.Env) (w : Sem Value) : attributeBase (.Name x p) nm env w = w := rfl
theorem s_mut0 (C : Ctx X Tb N sc fnb n E CA W) {m : Mu} {i : Nat} {x : Str} {p ap cp : Pos} (hl : (ap.endLine == cp.line) = true) (hn : nameB N sc i x = true) (hm : m = .pop ∨ m = .reverse ∨ m = .clear) :
    PE X (.Call (.Attribute (.Name x p) m.name ap) [] [] cp) (denE X.K CA W (evX E (.mut m i .nil))) := by
  have key : PE X (.Call (.Attribute (.Name x p) m.name ap) [] [] cp) (tBM0 X.K "list" (rMu X.K CA m i) (tVar i)) := by
    rcases hm with rfl | rfl | rfl
    · exact pe_bm0 PySem.F.plainAttrs_list PySem.F.slot_list_pop PySem.F.type_list_pop (m_pop (CA := CA)) (s_name C hn) (attr_name _ _ _) hl
    · exact pe_bm0 PySem.F.plainAttrs_list PySem.F.slot_list_reverse PySem.F.type_list_reverse (m_reverse (CA := CA)) (s_name C hn) (attr_name _ _ _) hl
    · exact pe_bm0 PySem.F.plainAttrs_list PySem.F.slot_list_clear PySem.F.type_list_clear (m_clear (CA := CA)) (s_name C hn) (attr_name _ _ _) hl
  refine key.imp fun σ H Q h => ?_
  obtain ⟨v, e1, ty, F, G, s, hK, hC, R, P⟩ := s_mut_imp h
  exact ⟨v, e1, ty, P [] G H (Evl.Ex.refl _) R .nil⟩
theorem s_mut1 (C : Ctx X Tb N sc fnb n E CA W) {m : Mu} {i : Nat} {x : Str} {p ap cp : Pos} {e : Expr} {es : List Expr} {xs : XS} (hl : (ap.endLine == cp.line) = true) (hn : nameB N sc i x = true) (hm : m ≠ .pop ∧ m ≠ .reverse ∧ m ≠ .clear) (hlen : es.length < 20)
    (pl : plains (e :: es) = true) (ha : PA X (e :: es) (denMs X.K CA W (evMs E xs))) : PE X (.Call (.Attribute (.Name x p) m.name ap) (e :: es) [] cp) (denE X.K CA W (evX E (.mut m i xs))) := by
  have pl' : plain e = true := by unfold plains at pl; rw [Bool.and_eq_true] at pl; exact pl.1
  have pl2 : plains es = true := by unfold plains at pl; rw [Bool.and_eq_true] at pl; exact pl.2
  have few := few_of (cp := cp) (env := X.env) pl (by simp; omega)
  refine PE.imp (t := tBM X.K "list" (rMu X.K CA m i) (tVar i) (denMs X.K CA W (evMs E xs))) ?_ fun σ H Q h => s_mut_imp h
  cases m with
  | append => exact pe_bm PySem.F.plainAttrs_list PySem.F.slot_list_append PySem.F.type_list_append (m_append (CA := CA)) (s_name C hn) ha (attr_name _ _ _) few hl (star_of pl' _ _) (any_of pl2)
  | insert => exact pe_bm PySem.F.plainAttrs_list PySem.F.slot_list_insert PySem.F.type_list_insert (m_insert (CA := CA)) (s_name C hn) ha (attr_name _ _ _) few hl (star_of pl' _ _) (any_of pl2)
  | popat => exact pe_bm PySem.F.plainAttrs_list PySem.F.slot_list_pop PySem.F.type_list_pop (m_popat (CA := CA)) (s_name C hn) ha (attr_name _ _ _) few hl (star_of pl' _ _) (any_of pl2)
  | extend => exact pe_bm PySem.F.plainAttrs_list PySem.F.slot_list_extend PySem.F.type_list_extend (m_extend (CA := CA)) (s_name C hn) ha (attr_name _ _ _) few hl (star_of pl' _ _) (any_of pl2)
  | pop => exact absurd rfl hm.1
  | reverse => exact absurd rfl hm.2.1
  | clear => exact absurd rfl hm.2.2
/-! ### tests -/
theorem t_x {e : Den.X} {f : Expr} (pt : plainT f = true) (h : PE X f (denP X.K CA W (evP E e))) : PT X f (denT X.K CA W (evT E (.x e))) := by
  refine (pt_truth h (fun w => true_of pt _ w)).imp fun σ H Q ⟨F, G, s, hK, hC, R, P⟩ => ⟨F, G, s, hK, hC, R, ?_⟩
  have P : PostT F G σ W Q ((evP E e s).bind fun p s1 => .opt s1 ((s1.look p).bind D.truth)) := P
  cases hm : evP E e s with
  | ok p s1 =>
    rw [hm] at P
    intro v G1 H1 x1 R1 pv
    have P : PostT F G σ W Q (.opt s1 ((s1.look p).bind D.truth)) := P
    cases hl : s1.look p with
    | none => rw [hl] at P; exact P.elim
    | some d =>
      rw [hl] at P
      have P : PostT F G σ W Q (.opt s1 d.truth) := P
      cases ht : d.truth with
      | none => rw [ht] at P; exact P.elim
      | some b =>
        rw [ht] at P
        exact ⟨b, by rw [← hK]; exact (R1.look pv hl).tru R1 ht, P G1 H1 x1 R1⟩
  | ex c p s1 => rw [hm] at P; exact P
  | bad => rw [hm] at P; exact P
theorem t_isN {neg : Bool} {a : Den.X} {l : Expr} {k : Nat} {pos pos' : Pos} {op : CmpOp} (ho : op = if neg = true then .IsNot else .Is) (h1 : PE X l (denP X.K CA W (evP E a))) :
    PT X (.Compare l [op] [.Constant .none k pos'] pos) (denT X.K CA W (evT E (.isN neg a))) := by
  have go : ∀ {r : R2} {bo : D → Bool}, OpR X (compareOp op) r → (∀ {F : Fr} {G H : Hp} {σ : L2.St} {s : S} {v : V} {d : D} {Q : VK}, F.K = X.K → F.CA = CA → RS F G H σ s → Pk F G H v d → Q (.bl (bo d)) H → r v .non H Q) → (∀ d, bo d = if neg = true then !decide (d = D.non) else decide (d = .non)) →
      PT X (.Compare l [op] [.Constant .none k pos'] pos) (denT X.K CA W (evT E (.isN neg a))) := fun {r bo} rule hr hb => by
    refine (pt_cmpR rule h1 pe_non (behind_of rfl op)).imp fun σ H Q ⟨F, G, s, hK, hC, R, P⟩ => ⟨F, G, s, hK, hC, R, ?_⟩
    have P : PostT F G σ W Q ((evP E a s).bind fun p s1 => .opt s1 ((s1.look p).map fun d => if neg = true then !decide (d = D.non) else decide (d = .non))) := P
    cases hm : evP E a s with
    | ok p s1 =>
      rw [hm] at P
      intro v G1 H1 x1 R1 pv
      have P : PostT F G σ W Q (.opt s1 ((s1.look p).map fun d => if neg = true then !decide (d = D.non) else decide (d = .non))) := P
      cases hl : s1.look p with
      | none => rw [hl] at P; exact P.elim
      | some d =>
        rw [hl] at P
        exact hr hK hC R1 (R1.look pv hl) ⟨_, rfl, by rw [hb d]; exact P G1 H1 x1 R1⟩
    | ex c p s1 => rw [hm] at P; exact P
    | bad => rw [hm] at P; exact P
  cases neg with
  | false =>
    subst ho
    exact go (r := fun x y H Q => y = .non ∧ Q (.bl (decide (x = .non))) H) (bo := fun d => decide (d = .non)) op_isN (fun _ _ _ pk q => ⟨rfl, by rw [pk.isN]; exact q⟩) fun d => rfl
  | true =>
    subst ho
    exact go (r := fun x y H Q => y = .non ∧ Q (.bl (!decide (x = .non))) H) (bo := fun d => !decide (d = .non)) op_notN (fun _ _ _ pk q => ⟨rfl, by rw [pk.isN]; exact q⟩) fun d => rfl
theorem t_cmp (C : Ctx X Tb N sc fnb n E CA W) {o : Op} {a b : Den.X} {l r : Expr} {p : CmpOp} {pos : Pos} (ho : copOf o = some p) (pr : plain r = true) (h1 : PE X l (denP X.K CA W (evP E a))) (h2 : PE X r (denP X.K CA W (evP E b))) :
    PT X (.Compare l [p] [r] pos) (denT X.K CA W (evT E (.cmp o a b))) := by
  refine (pt_cmpR (cmpR C ho) h1 h2 (behind_of pr p)).imp fun σ H Q ⟨F, G, s, hK, hC, R, P⟩ => ⟨F, G, s, hK, hC, R, ?_⟩
  have P : PostT F G σ W Q ((evP E a s).bind fun x s1 => (evP E b s1).bind fun y s2 => match (s2.looks [x, y]).bind (opSem o) with
    | some (.shr (.bl b)) => .ok b s2
    | _ => .bad) := P
  cases hm : evP E a s with
  | ok p1 s1 =>
    rw [hm] at P
    refine fun v G1 H1 x1 R1 pv => ⟨F, G1, s1, hK, hC, R1, ?_⟩
    rw [show ∀ f, (Out.ok p1 s1 : Out PV).bind f = f p1 s1 from fun _ => rfl] at P
    cases hm2 : evP E b s1 with
    | ok p2 s2 =>
      rw [hm2] at P
      intro w G2 H2 x2 R2 pv2
      rw [show ∀ f, (Out.ok p2 s2 : Out PV).bind f = f p2 s2 from fun _ => rfl] at P
      cases hl : s2.looks [p1, p2] with
      | none => rw [hl] at P; exact P.elim
      | some ds =>
        rw [hl] at P
        have P : PostT F G σ W Q (match opSem o ds with
          | some (.shr (.bl b)) => .ok b s2
          | _ => .bad) := P
        split at P
        · rename_i b ho
          exact ⟨F, G2, σ, s2, ds, _, hK, hC, R2, R2.looks (show PVs F G2 σ [v, w] [p1, p2] from ⟨pv.mono x2, pv2, trivial⟩) hl, ho, fun z G' H' g res => ⟨b, Rep.bl' res.1, P G' H' ((x1.trans x2).trans g.g) (R2.grow g)⟩⟩
        · exact P.elim
    | ex c p s1 => rw [hm2] at P; exact exW.mono x1 P
    | bad => rw [hm2] at P; exact P
  | ex c p s1 => rw [hm] at P; exact P
  | bad => rw [hm] at P; exact P
theorem t_cmp2 (C : Ctx X Tb N sc fnb n E CA W) {o p : Op} {a b c : Den.X} {l r q : Expr} {op pp : CmpOp} {pos : Pos} (h1 : copOf o = some op) (h2 : copOf p = some pp) (pq : plain q = true) (pl : PE X l (denP X.K CA W (evP E a))) (pr : PE X r (denP X.K CA W (evP E b))) (pc : PE X q (denP X.K CA W (evP E c))) :
    PT X (.Compare l [op, pp] [r, q] pos) (denT X.K CA W (evT E (.cmp2 o p a b c))) := by
  refine (pt_chain (cmpR C h1) (cmpR C h2) pl pr pc (last_of pq _ _)).imp fun σ H Q ⟨F, G, s, hK, hC, R, P⟩ => ⟨F, G, s, hK, hC, R, ?_⟩
  have P : PostT F G σ W Q ((evP E a s).bind fun x s1 => (evP E b s1).bind fun y s2 => match (s2.looks [x, y]).bind (opSem o) with
    | some (.shr (.bl true)) => (evP E c s2).bind fun z s3 => match (s3.looks [y, z]).bind (opSem p) with
      | some (.shr (.bl b)) => .ok b s3
      | _ => .bad
    | some (.shr (.bl false)) => .ok false s2
    | _ => .bad) := P
  cases hm : evP E a s with
  | ok p1 s1 =>
    rw [hm] at P
    refine fun v G1 H1 x1 R1 pv => ⟨F, G1, s1, hK, hC, R1, ?_⟩
    rw [show ∀ f, (Out.ok p1 s1 : Out PV).bind f = f p1 s1 from fun _ => rfl] at P
    cases hm2 : evP E b s1 with
    | ok p2 s2 =>
      rw [hm2] at P
      intro w G2 H2 x2 R2 pv2
      rw [show ∀ f, (Out.ok p2 s2 : Out PV).bind f = f p2 s2 from fun _ => rfl] at P
      cases hl : s2.looks [p1, p2] with
      | none => rw [hl] at P; exact P.elim
      | some ds =>
        rw [hl] at P
        have P : PostT F G σ W Q (match opSem o ds with
          | some (.shr (.bl true)) => (evP E c s2).bind fun z s3 => match (s3.looks [p2, z]).bind (opSem p) with
            | some (.shr (.bl b)) => .ok b s3
            | _ => .bad
          | some (.shr (.bl false)) => .ok false s2
          | _ => .bad) := P
        split at P
        · rename_i ho
          refine ⟨F, G2, σ, s2, ds, _, hK, hC, R2, R2.looks (show PVs F G2 σ [v, w] [p1, p2] from ⟨pv.mono x2, pv2, trivial⟩) hl, ho, fun z G' H' g res => ⟨true, Rep.bl' res.1, ?_⟩⟩
          rw [if_pos rfl]
          refine ⟨F, G', s2, hK, hC, R2.grow g, ?_⟩
          cases hm3 : evP E c s2 with
          | ok p3 s3 =>
            rw [hm3] at P
            intro u G3 H3 x3 R3 pv3
            rw [show ∀ f, (Out.ok p3 s3 : Out PV).bind f = f p3 s3 from fun _ => rfl] at P
            cases hl3 : s3.looks [p2, p3] with
            | none => rw [hl3] at P; exact P.elim
            | some es =>
              rw [hl3] at P
              have P : PostT F G σ W Q (match opSem p es with
                | some (.shr (.bl b)) => .ok b s3
                | _ => .bad) := P
              split at P
              · rename_i b hp
                exact ⟨F, G3, σ, s3, es, _, hK, hC, R3, R3.looks (show PVs F G3 σ [w, u] [p2, p3] from ⟨(pv2.mono g.g).mono x3, pv3, trivial⟩) hl3, hp, fun z G4 H4 g4 res => ⟨b, Rep.bl' res.1, P G4 H4 ((((x1.trans x2).trans g.g).trans x3).trans g4.g) (R3.grow g4)⟩⟩
              · exact P.elim
          | ex c p s1 => rw [hm3] at P; exact exW.mono ((x1.trans x2).trans g.g) P
          | bad => rw [hm3] at P; exact P
        · rename_i ho
          refine ⟨F, G2, σ, s2, ds, _, hK, hC, R2, R2.looks (show PVs F G2 σ [v, w] [p1, p2] from ⟨pv.mono x2, pv2, trivial⟩) hl, ho, fun z G' H' g res => ⟨false, Rep.bl' res.1, ?_⟩⟩
          rw [if_neg Bool.false_ne_true]
          exact ⟨false, rfl, P G' H' ((x1.trans x2).trans g.g) (R2.grow g)⟩
        · exact P.elim
    | ex c p s1 => rw [hm2] at P; exact exW.mono x1 P
    | bad => rw [hm2] at P; exact P
  | ex c p s1 => rw [hm] at P; exact P
  | bad => rw [hm] at P; exact P
theorem t_and {a b : T} {v w : Expr} {rest : List Expr} {pos : Pos} (h1 : PT X v (denT X.K CA W (evT E a))) (h2 : PW X (.BoolOp .And (w :: rest) pos) (denT X.K CA W (evT E b))) : PW X (.BoolOp .And (v :: w :: rest) pos) (denT X.K CA W (evT E (.and a b))) := by
  refine (pw_and h1 h2).imp fun σ H Q ⟨F, G, s, hK, hC, R, P⟩ => ⟨F, G, s, hK, hC, R, ?_⟩
  have P : PostT F G σ W Q ((evT E a s).bind fun c s1 => if c = true then evT E b s1 else .ok false s1) := P
  cases hm : evT E a s with
  | ok y s1 =>
    rw [hm] at P
    intro G1 H1 x1 R1
    rw [show ∀ f, (Out.ok y s1 : Out Bool).bind f = f y s1 from fun _ => rfl] at P
    cases y with
    | true =>
      rw [if_pos rfl] at P ⊢
      exact ⟨F, G1, s1, hK, hC, R1, P.mono x1⟩
    | false =>
      rw [if_neg Bool.false_ne_true] at P ⊢
      exact P G1 H1 x1 R1
  | ex c p s1 => rw [hm] at P; exact P
  | bad => rw [hm] at P; exact P
theorem t_or {a b : T} {v w : Expr} {rest : List Expr} {pos : Pos} (h1 : PT X v (denT X.K CA W (evT E a))) (h2 : PW X (.BoolOp .Or (w :: rest) pos) (denT X.K CA W (evT E b))) : PW X (.BoolOp .Or (v :: w :: rest) pos) (denT X.K CA W (evT E (.or a b))) := by
  refine (pw_or h1 h2).imp fun σ H Q ⟨F, G, s, hK, hC, R, P⟩ => ⟨F, G, s, hK, hC, R, ?_⟩
  have P : PostT F G σ W Q ((evT E a s).bind fun c s1 => if c = true then .ok true s1 else evT E b s1) := P
  cases hm : evT E a s with
  | ok y s1 =>
    rw [hm] at P
    intro G1 H1 x1 R1
    rw [show ∀ f, (Out.ok y s1 : Out Bool).bind f = f y s1 from fun _ => rfl] at P
    cases y with
    | true =>
      rw [if_pos rfl] at P ⊢
      exact P G1 H1 x1 R1
    | false =>
      rw [if_neg Bool.false_ne_true] at P ⊢
      exact ⟨F, G1, s1, hK, hC, R1, P.mono x1⟩
  | ex c p s1 => rw [hm] at P; exact P
  | bad => rw [hm] at P; exact P
theorem t_not {a : T} {v : Expr} {pos : Pos} (h1 : PT X v (denT X.K CA W (evT E a))) : PT X (.UnaryOp .Not v pos) (denT X.K CA W (evT E (.not a))) := by
  refine (pt_not h1).imp fun σ H Q ⟨F, G, s, hK, hC, R, P⟩ => ⟨F, G, s, hK, hC, R, ?_⟩
  have P : PostT F G σ W Q ((evT E a s).bind fun c s1 => .ok (!c) s1) := P
  cases hm : evT E a s with
  | ok y s1 => rw [hm] at P; exact fun G1 H1 x1 R1 => P G1 H1 x1 R1
  | ex c p s1 => rw [hm] at P; exact P
  | bad => rw [hm] at P; exact P
end
end Den
set_option Elab.async false
set_option linter.all false
set_option maxRecDepth 100000
set_option autoImplicit false
set_option maxHeartbeats 4000000
namespace Den
open PySem PySem.Spec PyProof.Rows L2
section
variable {X : Cx} {Tb : Tab} {N : List Str} {sc : Scope} {fnb : Str → Bool} {n : Nat} {E : Env} {CA : Nat → Option Addr} {W : WX} {tg : Expr}
/-! ### what is walked -/
theorem i1 {F : Fr} {G : Hp} {σ : L2.St} {it : It} {a : Den.X} {R : L2.It → Hp → Prop} {s : S} (he : ∀ s, evIt E it s = (evP E a s).bind fun p s1 => .ok [p] s1) (P : PostI F G σ W it R (evIt E it s)) :
    PostP F G σ W (fun v H1 => ∃ G1 s1 p ds items, Ex G G1 ∧ RS F G1 H1 σ s1 ∧ PVs F G1 σ [v] [p] ∧ s1.looks [p] = some ds ∧ itSem it ds = some items ∧ ∀ J, (∀ qs, WalkOk F.K [v] qs ds items J) → R J H1) (evP E a s) := by
  rw [he] at P
  cases hm : evP E a s with
  | ok p s1 =>
    rw [hm] at P
    intro v G1 H1 x1 R1 pv
    obtain ⟨ds, items, h1, h2, h3⟩ := P [v] G1 H1 x1 R1 ⟨pv, trivial⟩
    exact ⟨G1, s1, p, ds, items, x1, R1, ⟨pv, trivial⟩, h1, h2, h3⟩
  | ex c p s1 => rw [hm] at P; exact P
  | bad => rw [hm] at P; exact P
theorem i2 {F : Fr} {G : Hp} {σ : L2.St} {it : It} {a b : Den.X} {R : L2.It → Hp → Prop} {s : S} (he : ∀ s, evIt E it s = (evP E a s).bind fun p s1 => (evP E b s1).bind fun q s2 => .ok [p, q] s2) (P : PostI F G σ W it R (evIt E it s)) :
    PostPs F G σ W (fun vs H1 => ∃ v w G1 s1 p q ds items, vs = [v, w] ∧ Ex G G1 ∧ RS F G1 H1 σ s1 ∧ PVs F G1 σ [v, w] [p, q] ∧ s1.looks [p, q] = some ds ∧ itSem it ds = some items ∧ ∀ J, (∀ qs, WalkOk F.K [v, w] qs ds items J) → R J H1) (evPs E (.cons a (.cons b .nil)) s) := by
  rw [he] at P
  show PostPs F G σ W _ ((evP E a s).bind fun p s1 => ((evP E b s1).bind fun q s2 => (Out.ok [] s2 : Out (List PV)).bind fun ps s3 => .ok (q :: ps) s3).bind fun ps s2 => .ok (p :: ps) s2)
  cases hm : evP E a s with
  | ok p s1 =>
    rw [hm] at P
    show PostPs F G σ W _ (((evP E b s1).bind fun q s2 => (Out.ok [] s2 : Out (List PV)).bind fun ps s3 => .ok (q :: ps) s3).bind fun ps s2 => .ok (p :: ps) s2)
    have P : PostI F G σ W it R ((evP E b s1).bind fun q s2 => .ok [p, q] s2) := P
    cases hm2 : evP E b s1 with
    | ok q s2 =>
      rw [hm2] at P
      intro vs G1 H1 x1 R1 pv
      obtain ⟨ds, items, h1, h2, h3⟩ := P vs G1 H1 x1 R1 pv
      match vs, pv with
      | [v, w], pv => exact ⟨v, w, G1, s2, p, q, ds, items, rfl, x1, R1, pv, h1, h2, h3⟩
      | [], pv => exact pv.elim
      | [_], pv => exact pv.2.elim
      | _ :: _ :: _ :: _, pv => exact pv.2.2.elim
    | ex c p s1 => rw [hm2] at P; exact P
    | bad => rw [hm2] at P; exact P
  | ex c p s1 => rw [hm] at P; exact P
  | bad => rw [hm] at P; exact P
theorem it_seq {a : Den.X} {e : Expr} (h : PE X e (denP X.K CA W (evP E a))) : PI X tg e (denI X.K CA W (.seq a) (evIt E (.seq a))) := by
  refine (pi_seq h).imp fun σ H R ⟨F, G, s, hK, hC, RR, P⟩ => ⟨F, G, s, hK, hC, RR, ?_⟩
  have P := i1 (fun _ => rfl) P
  cases hm : evP E a s with
  | ok p s1 =>
    rw [hm] at P
    intro v G1 H1 x1 R1 pv
    obtain ⟨G2, s2, p', ds, items, x2, R2, pv2, hl, hi, hj⟩ := P v G1 H1 x1 R1 pv
    obtain ⟨d, rfl, p1⟩ := (R2.looks pv2 hl).inv1
    cases d <;> first | (cases hi; done) | skip
    · cases hi
      rename_i z
      have := p1.str
      subst this
      exact .inr (.inr ⟨z, rfl, hj _ fun _ => walk_str⟩)
    · cases hi
      obtain ⟨a, vs, rfl, h1, r1⟩ := p1.lst R2.gh
      rw [hK] at hj
      exact .inl ⟨a, rfl, ⟨vs, SqL.of h1⟩, hj _ fun _ => walk_list⟩
    · cases hi
      obtain ⟨a, vs, rfl, h1, r1⟩ := p1.tup R2.gh
      rw [hK] at hj h1
      exact .inr (.inl ⟨a, rfl, ⟨vs, h1⟩, hj _ fun _ => walk_tup⟩)
    · cases hi
      obtain ⟨a, vs, rfl, h1, r1⟩ := p1.frl R2.gh
      rw [hK] at hj h1
      exact .inl ⟨a, rfl, ⟨vs, h1⟩, hj _ fun _ => walk_frl⟩
  | ex c p s1 => rw [hm] at P; exact P
  | bad => rw [hm] at P; exact P
theorem it_rng (C : Ctx X Tb N sc fnb n E CA W) {a : Den.X} {e : Expr} {p pos : Pos} (hg : glT Tb sc "range" = true) (pl : plain e = true) (h : PE X e (denP X.K CA W (evP E a))) : PI X tg (.Call (.Name "range" p) [e] [] pos) (denI X.K CA W (.rng a) (evIt E (.rng a))) := by
  obtain ⟨g, ok, m⟩ := C.glT hg
  refine (pi_range1 g m (pa_cons h pa_nil (star_of pl _ _)) (star_of pl _ _)).imp fun σ H R ⟨F, G, s, hK, hC, RR, P⟩ => ⟨F, G, s, hK, hC, RR, ?_⟩
  have P := i1 (fun _ => rfl) P
  cases hm : evP E a s with
  | ok p s1 =>
    rw [hm] at P
    intro v G1 H1 x1 R1 pv
    obtain ⟨G2, s2, p', ds, items, x2, R2, pv2, hl, hi, hj⟩ := P v G1 H1 x1 R1 pv
    obtain ⟨d, rfl, p1⟩ := (R2.looks pv2 hl).inv1
    cases d <;> first | (cases hi; done) | skip
    rename_i j
    obtain ⟨hz, hi⟩ := ite_some (show (if -(2 ^ 62) ≤ j ∧ j < 2 ^ 62 then some ((List.range j.toNat).map fun k => D.int (k : Nat)) else none) = some items from hi)
    subst hi
    have := p1.int
    subst this
    refine ⟨j, rfl, hz.1, hz.2, hj _ fun qs => ?_⟩
    have w := walk_rng (K := F.K) (vs := [V.int j]) (ps := qs) (ds := [.int j]) (lo := 0) (n := j.toNat)
    simpa using w
  | ex c p s1 => rw [hm] at P; exact P
  | bad => rw [hm] at P; exact P
theorem it_rng2 (C : Ctx X Tb N sc fnb n E CA W) {a b : Den.X} {e f : Expr} {p pos : Pos} (hg : glT Tb sc "range" = true) (pl : plain e = true) (pl2 : plain f = true) (h : PE X e (denP X.K CA W (evP E a))) (h2 : PE X f (denP X.K CA W (evP E b))) :
    PI X tg (.Call (.Name "range" p) [e, f] [] pos) (denI X.K CA W (.rng2 a b) (evIt E (.rng2 a b))) := by
  obtain ⟨g, ok, m⟩ := C.glT hg
  refine (pi_range2 g m (s_consP pl h (s_consP pl2 h2 s_nilP)) (by rw [star_of pl, star_of pl2]; rfl) (star_of pl2 _ _)).imp fun σ H R ⟨F, G, s, hK, hC, RR, P⟩ => ⟨F, G, s, hK, hC, RR, ?_⟩
  have P := i2 (fun _ => rfl) P
  cases hm : evPs E (.cons a (.cons b .nil)) s with
  | ok p s1 =>
    rw [hm] at P
    intro vs G1 H1 x1 R1 pv
    obtain ⟨v, w, G2, s2, p', q', ds, items, rfl, x2, R2, pv2, hl, hi, hj⟩ := P vs G1 H1 x1 R1 pv
    obtain ⟨d, d', rfl, p1, p2⟩ := (R2.looks pv2 hl).inv2
    cases d <;> first | (cases hi; done) | skip
    cases d' <;> first | (cases hi; done) | skip
    rename_i i j
    obtain ⟨hz, hi⟩ := ite_some (show (if -(2 ^ 62) ≤ i ∧ i < 2 ^ 62 ∧ -(2 ^ 62) ≤ j ∧ j < 2 ^ 62 then some ((List.range (j - i).toNat).map fun k => D.int (i + (k : Nat))) else none) = some items from hi)
    subst hi
    have h1 := p1.int
    have h2 := p2.int
    subst h1 h2
    exact ⟨i, j, rfl, hz, hj _ fun _ => walk_rng⟩
  | ex c p s1 => rw [hm] at P; exact P
  | bad => rw [hm] at P; exact P
theorem it_enum (C : Ctx X Tb N sc fnb n E CA W) {a : Den.X} {e : Expr} {p pos : Pos} (ht : isTup tg = true) (hg : glT Tb sc "enumerate" = true) (pl : plain e = true) (h : PE X e (denP X.K CA W (evP E a))) : PI X tg (.Call (.Name "enumerate" p) [e] [] pos) (denI X.K CA W (.enum a) (evIt E (.enum a))) := by
  obtain ⟨g, ok, m⟩ := C.glT hg
  cases tg <;> first | (exact Bool.noConfusion ht) | skip
  refine (pi_enum g m (pa_cons h pa_nil (star_of pl _ _)) (star_of pl _ _)).imp fun σ H R ⟨F, G, s, hK, hC, RR, P⟩ => ⟨F, G, s, hK, hC, RR, ?_⟩
  have P := i1 (fun _ => rfl) P
  cases hm : evP E a s with
  | ok p s1 =>
    rw [hm] at P
    intro v G1 H1 x1 R1 pv
    obtain ⟨G2, s2, p', ds, items, x2, R2, pv2, hl, hi, hj⟩ := P v G1 H1 x1 R1 pv
    obtain ⟨d, rfl, p1⟩ := (R2.looks pv2 hl).inv1
    cases d <;> first | (cases hi; done) | skip
    cases hi
    obtain ⟨a, vs, rfl, h1, r1⟩ := p1.lst R2.gh
    rw [hK] at hj
    exact ⟨a, vs, rfl, SqL.of h1, hj _ fun _ => walk_enum⟩
  | ex c p s1 => rw [hm] at P; exact P
  | bad => rw [hm] at P; exact P
theorem it_zip (C : Ctx X Tb N sc fnb n E CA W) {a b : Den.X} {e f : Expr} {p pos : Pos} (ht : isTup tg = true) (hg : glT Tb sc "zip" = true) (pl : plain e = true) (pl2 : plain f = true) (h : PE X e (denP X.K CA W (evP E a))) (h2 : PE X f (denP X.K CA W (evP E b))) :
    PI X tg (.Call (.Name "zip" p) [e, f] [] pos) (denI X.K CA W (.zip a b) (evIt E (.zip a b))) := by
  obtain ⟨g, ok, m⟩ := C.glT hg
  cases tg <;> first | (exact Bool.noConfusion ht) | skip
  refine (RZ.pi_zipA g m (s_consP pl h (s_consP pl2 h2 s_nilP)) (star_of pl _ _) (by rw [star_of pl2]; rfl)).imp fun σ H R ⟨F, G, s, hK, hC, RR, P⟩ => ⟨F, G, s, hK, hC, RR, ?_⟩
  have P := i2 (fun _ => rfl) P
  cases hm : evPs E (.cons a (.cons b .nil)) s with
  | ok p s1 =>
    rw [hm] at P
    intro vs G1 H1 x1 R1 pv
    obtain ⟨v, w, G2, s2, p', q', ds, items, rfl, x2, R2, pv2, hl, hi, hj⟩ := P vs G1 H1 x1 R1 pv
    obtain ⟨d, d', rfl, p1, p2⟩ := (R2.looks pv2 hl).inv2
    cases d <;> first | (cases hi; done) | skip
    · cases d' <;> first | (cases hi; done) | skip
      cases hi
      obtain ⟨a, vs, rfl, h1, r1⟩ := p1.lst R2.gh
      obtain ⟨b, ws, rfl, h2, r2⟩ := p2.lst R2.gh
      rw [hK] at hj
      exact ⟨a, b, vs, ws, rfl, .inl ⟨SqL.of h1, SqL.of h2, hj _ fun _ => walk_zip⟩⟩
    · cases d' <;> first | (cases hi; done) | skip
      cases hi
      obtain ⟨a, vs, rfl, h1, r1⟩ := p1.tup R2.gh
      obtain ⟨b, ws, rfl, h2, r2⟩ := p2.tup R2.gh
      rw [hK] at hj h1 h2
      exact ⟨a, b, vs, ws, rfl, .inr ⟨h1, h2, hj _ fun _ => walk_zipT⟩⟩
  | ex c p s1 => rw [hm] at P; exact P
  | bad => rw [hm] at P; exact P
theorem it_rev (C : Ctx X Tb N sc fnb n E CA W) {a : Den.X} {e : Expr} {p pos : Pos} (hg : glT Tb sc "reversed" = true) (pl : plain e = true) (h : PE X e (denP X.K CA W (evP E a))) : PI X tg (.Call (.Name "reversed" p) [e] [] pos) (denI X.K CA W (.rev a) (evIt E (.rev a))) := by
  obtain ⟨g, ok, m⟩ := C.glT hg
  refine (RT.pi_revA g m h (star_of pl _ _)).imp fun σ H R ⟨F, G, s, hK, hC, RR, P⟩ => ⟨F, G, s, hK, hC, RR, ?_⟩
  have P := i1 (fun _ => rfl) P
  cases hm : evP E a s with
  | ok p s1 =>
    rw [hm] at P
    intro v G1 H1 x1 R1 pv
    obtain ⟨G2, s2, p', ds, items, x2, R2, pv2, hl, hi, hj⟩ := P v G1 H1 x1 R1 pv
    obtain ⟨d, rfl, p1⟩ := (R2.looks pv2 hl).inv1
    cases d <;> first | (cases hi; done) | skip
    · cases hi
      obtain ⟨a, vs, rfl, h1, r1⟩ := p1.lst R2.gh
      rw [hK] at hj
      refine ⟨a, vs, rfl, .inl ⟨SqL.of h1, ?_⟩⟩
      rw [r1.length]
      exact hj _ fun _ => walk_rev
    · cases hi
      obtain ⟨a, vs, rfl, h1, r1⟩ := p1.tup R2.gh
      rw [hK] at hj h1
      refine ⟨a, vs, rfl, .inr ⟨h1, ?_⟩⟩
      rw [r1.length]
      exact hj _ fun _ => walk_revT
  | ex c p s1 => rw [hm] at P; exact P
  | bad => rw [hm] at P; exact P
/-! ### comprehensions -/
theorem _root_.L2.PTs.imp {ifs : List Expr} {t t' : TT} (h : PTs X ifs t) (i : ∀ σ H Q, t' σ H Q → t σ H Q) : PTs X ifs t' := ⟨fun pins s σ H Q I q => h.run pins s σ H Q I (i σ H Q q)⟩
def W0 : WX := fun _ _ _ _ => False
theorem Ctx.blk (C : Ctx X Tb N sc fnb n E CA W) (s : Shared) (H : Hp) (scope : Scope) (c : Addr) (cl : List (Str × Addr)) (fp : List Addr) :
    Ctx (X.blk s H scope (compEnvC scope cl c X.env) fp) Tb N (relS scope sc) (fun x => scope.names.lookup x == some .cell) n E CA W0 where
  hN := C.hN
  nd := C.nd
  hsc := by show relS scope X.env.scope = relS scope sc; rw [C.hsc]
  calm := C.calm
  tk := fun u s' ⟨_, _, _, _, _, _, _, _, _, _, _, _, _, _, _, _, w⟩ => w.elim
  room := C.room
  hfn := fun _ => rfl
  tab := C.tab
theorem tru_ts {X : Cx} {t : T} (h : t.isTru = true) : PTs X [] (denT X.K CA W (evT E t)) := by
  cases t <;> first | (exact Bool.noConfusion h) | skip
  exact pts_nil.imp fun σ H Q ⟨F, G, s, hK, hC, R, P⟩ => P G H (Evl.Ex.refl _) R
theorem wipe_get_in {σ : L2.St} {i : Nat} : ∀ {vs : List Nat}, i ∈ vs → i < σ.length → (L2.wipe σ vs)[i]? = some none
  | [], h, _ => by cases h
  | v :: vs, h, hl => by
    unfold L2.wipe
    by_cases e : v = i
    · subst e; exact List.getElem?_set_self (by rw [L2.wipe_length]; exact hl)
    · rw [List.getElem?_set_ne e]
      exact wipe_get_in ((List.mem_cons.mp h).resolve_left (fun z => e z.symm)) hl
theorem wipe_twice {σ : L2.St} {vs : List Nat} : L2.wipe (L2.wipe σ vs) vs = L2.wipe σ vs := by
  apply List.ext_getElem?
  intro i
  by_cases h : i ∈ vs
  · by_cases hl : i < σ.length
    · rw [wipe_get_in h (by rw [L2.wipe_length]; exact hl), wipe_get_in h hl]
    · rw [List.getElem?_eq_none (by rw [L2.wipe_length, L2.wipe_length]; omega), List.getElem?_eq_none (by rw [L2.wipe_length]; omega)]
  · rw [wipeS_get (x := none) h]
theorem PVs.pin {F : Fr} {G : Hp} {σ : L2.St} {a : Addr} {o : HO} : ∀ {vs : List V} {ps : List PV}, PVs F G σ vs ps → PVs (F.pin a o) G σ vs ps
  | [], [], _ => trivial
  | v :: vs, p :: ps, ⟨h, t⟩ => ⟨by cases p <;> exact h, PVs.pin t⟩
  | [], _ :: _, h => h.elim
  | _ :: _, [], h => h.elim
/-- an operand is still there in the block -/
theorem PVs.blk {F : Fr} {G : Hp} {σ : L2.St} {own : List Nat} {s : S} : ∀ {vs : List V} {ps : List PV} {ds : List D}, (∀ i ∈ own, s.slot i = none) → PVs F G σ vs ps → s.looks ps = some ds → PVs F G (L2.wipe σ own) vs ps
  | [], [], _, _, _, _ => trivial
  | v :: vs, p :: ps, ds, ho, ⟨h, t⟩, e => by
    unfold S.looks at e
    cases hd : s.look p with
    | none => rw [hd] at e; cases e
    | some d =>
      rw [hd] at e
      cases ht : s.looks ps with
      | none => rw [ht] at e; cases e
      | some ds' =>
        refine ⟨?_, PVs.blk ho t ht⟩
        cases p with
        | val d => exact h
        | br k => exact h
        | «at» i =>
          have hi : i ∉ own := fun m => by
            have hd : (s.slot i).bind s.data = some d := hd
            rw [ho i m] at hd; cases hd
          show (L2.wipe σ own)[i]? = some (some v)
          rw [wipeS_get (x := none) hi]
          exact h
  | [], _ :: _, _, _, h, _ => h.elim
  | _ :: _, [], _, _, h, _ => h.elim
theorem slot_wiped {s : S} {own : List Nat} : ∀ i ∈ own, (s.wipe own).slot i = none := fun i hi => by
  cases h : (s.wipe own).slot i with
  | none => rfl
  | some x => exact absurd hi (foldl_none (slot_env h)).2
theorem s_comp (C : Ctx X Tb N sc fnb n E CA W) {own : List (Str × Nat)} {tgx : Tg} {it : It} {t : T} {x : Den.X} (hin : tgIn (own.map (·.2)) tgx = true) {σ : L2.St} {H : Hp} {Q : VK} (h : denE X.K CA W (evX E (.comp own tgx it t x)) σ H Q) :
    tLc (denI X.K CA W it (evIt E it)) (gDen X.K CA tgx) (denT X.K CA W0 (evT E t)) (denE X.K CA W0 (evX E x)) (own.map (·.2)) σ H Q := by
  obtain ⟨F, G, s, hK, hC, R, P0⟩ := h
  generalize hown : own.map (·.2) = ow at *
  have P : PostE F G σ W Q ((evIt E it s).bind fun ps s1 => match (s1.looks ps) with
    | none => .bad
    | some ds => match itSem it ds with
      | none => .bad
      | some items => (compRun (fun s d => match S.asg tgx d s with
          | none => .bad
          | some s' => (evT E t s').bind fun c s2 => if c = true then (evX E x s2).bind fun v s3 => match v.d with
              | some d => .ok (some d) (s3.wipe (own.map (·.2)))
              | none => .bad
            else .ok none (s2.wipe (own.map (·.2)))) (fun s => decide (s.looks ps = some ds)) items [] (s1.wipe (own.map (·.2)))).bind fun acc s2 => .ok (.own (.lst acc)) (s1.restore s2 (own.map (·.2)))) := P0
  clear P0
  rw [hown] at P
  refine ⟨F, G, s, hK, hC, R, ?_⟩
  cases hm : evIt E it s with
  | ex c p s1 => rw [hm] at P; exact P
  | bad => rw [hm] at P; exact P
  | ok ps s1 =>
    rw [hm] at P
    rw [show ∀ f, (Out.ok ps s1 : Out (List PV)).bind f = f ps s1 from fun _ => rfl] at P
    intro vs G1 H1 x1 R1 pvs
    cases hl : s1.looks ps with
    | none => simp only [hl] at P; exact P.elim
    | some ds =>
      simp only [hl] at P
      cases hit : itSem it ds with
      | none => simp only [hit] at P; exact P.elim
      | some items =>
        simp only [hit] at P
        refine ⟨ds, items, rfl, hit, fun J hJ Da hD => ?_⟩
        have hn : F.H0 Da = none := R1.h0 hD
        have hbD : F.B Da = none := by
          cases q : F.B Da with
          | none => rfl
          | some u => have := R1.bh _ _ q; rw [hn] at this; cases this
        have hrD : Da ∉ F.rs := R1.apart hn
        have hg1 : G1 Da = none := gnone R1.gh hD
        have ns0 : NoSlot σ s1 Da := fun i y e1 e2 => no_slot R1 hD i y e1 e2
        have nsw : NoSlot (L2.wipe σ ow) (s1.wipe ow) Da := fun i y e1 e2 q => by
          obtain ⟨a1, a2⟩ := foldl_none e1
          rw [wipeS_get (x := none) a2] at q
          exact ns0 i y a1 e2 q
        refine ⟨fun i m H' => m = items.length - i ∧ i ≤ items.length ∧ ∃ G' s' acc vacc, Ex G1 G' ∧ RS F G' H' (L2.wipe σ ow) s' ∧ (∀ i ∈ ow, s'.slot i = none) ∧ G' Da = none ∧ H' Da = some (.lst vacc) ∧ NoSlot (L2.wipe σ ow) s' Da ∧ Reps F.K F.CA G' vacc acc ∧
          PostE F G1 σ W Q ((compRun (fun s d => match S.asg tgx d s with
          | none => .bad
          | some s' => (evT E t s').bind fun c s2 => if c = true then (evX E x s2).bind fun v s3 => match v.d with
              | some d => .ok (some d) (s3.wipe ow)
              | none => .bad
            else .ok none (s2.wipe ow)) (fun s => decide (s.looks ps = some ds)) (items.drop i) acc s').bind fun acc s2 => .ok (.own (.lst acc)) (s1.restore s2 ow)), ⟨items.length, rfl, Nat.zero_le _, G1, s1.wipe ow, [], [], Evl.Ex.refl _, ?_, slot_wiped, hg1, upd_same, nsw, .nil, P.mono x1⟩, ?_⟩
        · exact (R1.grow (Grow.newH R1.gh hD)).blk ow
        · rintro i m H' ⟨rfl, hi', G', s', acc, vacc, xg, R', hso, hgD, hHD, nsD, racc, P'⟩
          have pv' : ∀ {ds' : List D}, s'.looks ps = some ds' → PVs F G' (L2.wipe σ ow) vs ps := fun {ds'} hl' => (PVs.blk hso pvs hl').mono xg
          by_cases hlt : i < items.length
          · have hdrop : items.drop i = items[i] :: items.drop (i + 1) := List.drop_eq_getElem_cons hlt
            rw [hdrop] at P'
            unfold compRun at P'
            by_cases hok : s'.looks ps = some ds
            · rw [if_pos (decide_eq_true hok)] at P'
              have wk := (hJ ps F rfl (L2.wipe σ ow) G' H' s' i R' (pv' hok) hok).2 items[i] (List.getElem?_eq_getElem hlt)
              refine .inr ⟨wk.1, fun H2 => i + 1 ≤ items.length ∧ ∃ G' s' acc vacc, Ex G1 G' ∧ RS F G' H2 (L2.wipe σ ow) s' ∧ (∀ i ∈ ow, s'.slot i = none) ∧ G' Da = none ∧ H2 Da = some (.lst vacc) ∧ NoSlot (L2.wipe σ ow) s' Da ∧ Reps F.K F.CA G' vacc acc ∧
                PostE F G1 σ W Q ((compRun (fun s d => match S.asg tgx d s with
                  | none => .bad
                  | some s' => (evT E t s').bind fun c s2 => if c = true then (evX E x s2).bind fun v s3 => match v.d with
                      | some d => .ok (some d) (s3.wipe ow)
                      | none => .bad
                    else .ok none (s2.wipe ow)) (fun s => decide (s.looks ps = some ds)) (items.drop (i + 1)) acc s').bind fun acc s2 => .ok (.own (.lst acc)) (s1.restore s2 ow)), fun H2 h2 => ⟨items.length - (i + 1), by omega, rfl, h2.1, h2.2⟩, fun y H2 hy => ?_⟩
              -- the new item, the list kept apart
              have Rp := R'.pin hn hgD hHD nsD
              obtain ⟨G2, x2, R2, r2⟩ := ((hJ ps (F.pin Da (.lst vacc)) rfl (L2.wipe σ ow) G' H' s' i Rp (pv' hok).pin hok).2 items[i] (List.getElem?_eq_getElem hlt)).2 y H2 hy
              cases ha : S.asg tgx items[i] s' with
              | none => simp only [ha] at P'; exact P'.elim
              | some s2 =>
                simp only [ha] at P'
                refine ⟨F.pin Da (.lst vacc), G2, s', items[i], s2, hK, hC, R2, r2, ha, fun σ3 G3 H3 x3 R3 hw => ⟨(hw ow hin).trans wipe_twice, F.pin Da (.lst vacc), G3, s2, hK, hC, R3, ?_⟩⟩
                cases ht2 : evT E t s2 with
                | ex c p s1 => simp only [ht2] at P'; exact P'.elim
                | bad => simp only [ht2] at P'; exact P'.elim
                | ok b s3 =>
                  simp only [ht2] at P'
                  rw [show ∀ {α : Type} (f : Bool → S → Out α), (Out.ok b s3 : Out Bool).bind f = f b s3 from fun _ => rfl] at P'
                  intro G4 H4 x4 R4
                  cases b with
                  | false =>
                    rw [if_neg Bool.false_ne_true] at P' ⊢
                    obtain ⟨R5, g5, h5, n5⟩ := R4.unpin hn hbD hrD
                    have R6 := R5.blk ow
                    rw [hw ow hin] at R6
                    refine ⟨hlt, G4, s3.wipe ow, acc, vacc, ((xg.trans x2).trans x3).trans x4, ?_, slot_wiped, g5, h5, fun i y e1 e2 q => ?_, racc.mono ((x2.trans x3).trans x4), P'⟩
                    · have e : L2.wipe (L2.wipe σ ow) ow = L2.wipe σ ow := wipe_twice
                      rw [e] at R6
                      exact R6
                    · obtain ⟨a1, a2⟩ := foldl_none e1
                      refine n5 i y a1 e2 ?_
                      rw [← q, ← wipeS_get (x := none) (σ := σ3) a2, hw ow hin, wipe_twice]
                  | true =>
                    rw [if_pos rfl] at P' ⊢
                    refine ⟨F.pin Da (.lst vacc), G4, s3, hK, hC, R4, ?_⟩
                    cases hx2 : evX E x s3 with
                    | ex c p s1 => simp only [hx2] at P'; exact P'.elim
                    | bad => simp only [hx2] at P'; exact P'.elim
                    | ok v s4 =>
                      simp only [hx2] at P'
                      rw [show ∀ {α : Type} (f : SV → S → Out α), (Out.ok v s4 : Out SV).bind f = f v s4 from fun _ => rfl] at P'
                      intro w G5 H5 x5 R5 res
                      cases hvd : v.d with
                      | none => simp only [hvd] at P'; exact P'.elim
                      | some d =>
                        simp only [hvd] at P'
                        unfold compNext at P'
                        by_cases hz : acc.length < lim
                        · simp only [if_pos hz] at P'
                          obtain ⟨G6, x6, R6, r6⟩ := res.freeze R5 hvd
                          obtain ⟨R7, g7, h7, n7⟩ := R6.unpin hn hbD hrD
                          have n8 : NoSlot (L2.wipe σ ow) (s4.wipe ow) Da := fun i y e1 e2 q => by
                            obtain ⟨a1, a2⟩ := foldl_none e1
                            refine n7 i y a1 e2 ?_
                            rw [← q, ← wipeS_get (x := none) (σ := σ3) a2, hw ow hin, wipe_twice]
                          have R8 := R7.blk ow
                          rw [hw ow hin, wipe_twice] at R8
                          have racc' := racc.mono ((((x2.trans x3).trans x4).trans x5).trans x6)
                          exact ⟨vacc, h7, by rw [racc.length]; exact szl hz, hlt, G6, s4.wipe ow, acc ++ [d], vacc ++ [w], ((((xg.trans x2).trans x3).trans x4).trans x5).trans x6, R8.other hn g7 n8, slot_wiped, g7, upd_same, n8, racc'.append (.one r6), P'⟩
                        · simp only [if_neg hz] at P'
                          exact P'.elim
            · rw [if_neg (by rw [decide_eq_false hok]; exact Bool.false_ne_true)] at P'
              exact P'.elim
          · have hge : items.length ≤ i := Nat.le_of_not_lt hlt
            have hdrop : items.drop i = [] := List.drop_eq_nil_of_le hge
            rw [hdrop] at P'
            unfold compRun at P'
            by_cases hok : s'.looks ps = some ds
            · rw [if_pos (decide_eq_true hok)] at P'
              have P' : PostE F G1 σ W Q (.ok (.own (.lst acc)) (s1.restore s' ow)) := P'
              have Rr := RS.restore R1 xg R'
              refine .inl ⟨(hJ ps F rfl (L2.wipe σ ow) G' H' s' i R' (pv' hok) hok).1 hge, P' (.ref Da) G' H' xg Rr ⟨⟨Da, rfl, .lst hHD racc, hgD, hn⟩, fun _ => (by intro z; cases z), fun _ j y e1 e2 q => ?_⟩⟩
              rcases foldl_res e1 with ⟨a1, a2⟩ | ⟨a1, a2⟩
              · split at a2
                · cases a2; cases e2
                · cases a2
              · exact nsD j y a2 e2 (by rw [wipeS_get (x := none) a1]; exact q)
            · rw [if_neg (by rw [decide_eq_false hok]; exact Bool.false_ne_true)] at P'
              exact P'.elim
end
end Den
set_option Elab.async false
set_option linter.all false
set_option maxRecDepth 100000
set_option autoImplicit false
set_option maxHeartbeats 4000000
namespace Den
open PySem PySem.Spec PyProof.Rows L2
section
variable {Tb : Tab} {N : List Str} {n : Nat} {E : Env} {CA : Nat → Option Addr}
theorem and2 {a b : Bool} (h : (a && b) = true) : a = true ∧ b = true := by rw [Bool.and_eq_true] at h; exact h
mutual
theorem sX : ∀ (x : Den.X) {X : Cx} {sc : Scope} {fnb : Str → Bool} {W : WX} (C : Ctx X Tb N sc fnb n E CA W) (e : Expr), chkX Tb N sc x e = true → PE X e (denE X.K CA W (evX E x))
  | .var i, X, sc, fnb, W, C, e, h => by
    unfold chkX at h
    split at h
    · exact s_var C h
    · cases h
  | .int i, X, sc, fnb, W, C, e, h => by
    unfold chkX at h
    split at h
    · have := of_decide_eq_true h
      subst this
      exact pe_int.imp fun σ H Q h => den_c rfl (fun _ => rfl) h
    · cases h
  | .str i, X, sc, fnb, W, C, e, h => by
    unfold chkX at h
    split at h
    · have := of_decide_eq_true h
      subst this
      exact pe_str.imp fun σ H Q h => den_c rfl (fun _ => rfl) h
    · cases h
  | .bl i, X, sc, fnb, W, C, e, h => by
    unfold chkX at h
    split at h
    · have := of_decide_eq_true h
      subst this
      exact pe_bl.imp fun σ H Q h => den_c rfl (fun _ => rfl) h
    · cases h
  | .non, X, sc, fnb, W, C, e, h => by
    unfold chkX at h
    split at h
    · exact pe_non.imp fun σ H Q h => den_c rfl (fun _ => rfl) h
    · cases h
  | .glo x d, X, sc, fnb, W, C, e, h => by
    unfold chkX at h
    split at h
    · obtain ⟨h, h3⟩ := and2 h
      obtain ⟨h1, h2⟩ := and2 h
      have := of_decide_eq_true h1
      subst this
      exact s_glo C h2 (of_decide_eq_true h3)
    · cases h
  | .op o xs, X, sc, fnb, W, C, e, h => by
    unfold chkX at h
    cases hs : shape o e with
    | none => rw [hs] at h; cases h
    | some p =>
      obtain ⟨gs, es⟩ := p
      rw [hs] at h
      obtain ⟨h1, h2⟩ := and2 h
      exact shape_sound C hs h1 (sXs xs C es h2)
  | .lst xs, X, sc, fnb, W, C, e, h => by
    unfold chkX at h
    split at h
    · exact s_lst (sXs xs C _ h).ms
    · cases h
  | .tup xs, X, sc, fnb, W, C, e, h => by
    unfold chkX at h
    split at h
    · exact s_tup (sXs xs C _ h).ms
    · cases h
  | .cmp2 o p a b c, X, sc, fnb, W, C, e, h => by
    unfold chkX at h
    split at h
    · obtain ⟨h, hc⟩ := and2 h
      obtain ⟨h, hb⟩ := and2 h
      obtain ⟨h, ha⟩ := and2 h
      obtain ⟨h, pq⟩ := and2 h
      obtain ⟨h, pr⟩ := and2 h
      obtain ⟨h, pl⟩ := and2 h
      obtain ⟨h1, h2⟩ := and2 h
      exact s_cmp2 C (of_decide_eq_true h1) (of_decide_eq_true h2) pq (pe_p C ha (sX a C _ ha)) (pe_p C hb (sX b C _ hb)) (pe_p C hc (sX c C _ hc))
    · cases h
  | .and a b, X, sc, fnb, W, C, e, h => by
    unfold chkX at h
    split at h
    · obtain ⟨ha, hb⟩ := and2 h
      exact s_and (sX a C _ ha) (pe_one (sX b C _ hb))
    · obtain ⟨ha, hb⟩ := and2 h
      exact s_and (sX a C _ ha) (sX b C _ hb)
    · cases h
  | .or a b, X, sc, fnb, W, C, e, h => by
    unfold chkX at h
    split at h
    · obtain ⟨ha, hb⟩ := and2 h
      exact s_or (sX a C _ ha) (pe_one (sX b C _ hb))
    · obtain ⟨ha, hb⟩ := and2 h
      exact s_or (sX a C _ ha) (sX b C _ hb)
    · cases h
  | .not a, X, sc, fnb, W, C, e, h => by
    unfold chkX at h
    split at h
    · exact s_not (sX a C _ h)
    · cases h
  | .ite t a b, X, sc, fnb, W, C, e, h => by
    unfold chkX at h
    split at h
    · obtain ⟨h, hb⟩ := and2 h
      obtain ⟨ht, ha⟩ := and2 h
      exact s_ite (sT t C _ ht).1 (sX a C _ ha) (sX b C _ hb)
    · cases h
  | .sl3 a b c, X, sc, fnb, W, C, e, h => by
    unfold chkX at h
    split at h
    · obtain ⟨h, hc⟩ := and2 h
      obtain ⟨h, hb⟩ := and2 h
      obtain ⟨h, ha⟩ := and2 h
      exact op_sl3 C (pe_p C ha (sX a C _ ha)) (pe_p C hb (sX b C _ hb)) (pe_p C hc (sX c C _ hc))
    · cases h
  | .bm m o xs, X, sc, fnb, W, C, e, h => by
    unfold chkX at h
    split at h
    · obtain ⟨h, hxs⟩ := and2 h
      obtain ⟨h, ho⟩ := and2 h
      obtain ⟨h, hl⟩ := and2 h
      obtain ⟨h, pa⟩ := and2 h
      obtain ⟨h1, h2⟩ := and2 h
      have e1 := of_decide_eq_true h1
      subst e1
      have all := sXs xs C _ hxs
      exact s_bm C h2 pa all.plains (of_decide_eq_true hl) (pe_p C ho (sX o C _ ho)) all.ps
    · cases h
  | .call f ms xs, X, sc, fnb, W, C, e, h => by
    unfold chkX at h
    split at h
    · obtain ⟨h, hxs⟩ := and2 h
      obtain ⟨h1, hg⟩ := and2 h
      split at h1
      · rename_i I hI
        obtain ⟨h1, h2⟩ := and2 h1
        have e1 := of_decide_eq_true h1
        subst e1
        have all := sXs xs C _ hxs
        exact s_call C hI hg all.plains all.ps
      · cases h1
    · cases h
  | .mut m i xs, X, sc, fnb, W, C, e, h => by
    unfold chkX at h
    split at h
    · obtain ⟨h, hxs⟩ := and2 h
      obtain ⟨h, hm⟩ := and2 h
      obtain ⟨h, hn⟩ := and2 h
      obtain ⟨h1, hl⟩ := and2 h
      have e1 := of_decide_eq_true h1
      subst e1
      have : xs = .nil := by
        cases xs with
        | nil => rfl
        | cons _ _ => unfold chkXs at hxs; cases hxs
      subst this
      exact s_mut0 C hl hn (by cases m <;> first | (exact .inl rfl) | (exact .inr (.inl rfl)) | (exact .inr (.inr rfl)) | (exact Bool.noConfusion hm))
    · obtain ⟨h, hxs⟩ := and2 h
      obtain ⟨h, hlen⟩ := and2 h
      obtain ⟨h, hm⟩ := and2 h
      obtain ⟨h, hn⟩ := and2 h
      obtain ⟨h1, hl⟩ := and2 h
      have e1 := of_decide_eq_true h1
      subst e1
      have all := sXs xs C _ hxs
      exact s_mut1 C hl hn (by refine ⟨?_, ?_, ?_⟩ <;> (intro z; subst z; exact Bool.noConfusion hm)) (of_decide_eq_true hlen) all.plains all.ms
    · cases h
  | .comp own tgx it t x, X, sc, fnb, W, C, e, h => by
    unfold chkX at h
    split at h
    · obtain ⟨h, hx⟩ := and2 h
      obtain ⟨h, ht⟩ := and2 h
      obtain ⟨h, hin⟩ := and2 h
      obtain ⟨h, htg⟩ := and2 h
      obtain ⟨h, hit⟩ := and2 h
      obtain ⟨hb, pl⟩ := and2 h
      refine (pe_lc (own := own) C.calm (by rw [C.hN]; exact C.nd) (sIt it C _ _ hit) (blkOk_by (by rw [C.hN, C.hsc]; exact hb)) (fun s H c cl fp => sTg (C.blk s H _ c cl fp) _ _ htg) (fun s H c cl fp => tru_ts ht) (fun s H c cl fp => sX x (C.blk s H _ c cl fp) _ hx) (folded_of pl _)).imp fun σ H Q h => s_comp C (of_decide_eq_true hin) h
    · obtain ⟨h, hx⟩ := and2 h
      obtain ⟨h, ht⟩ := and2 h
      obtain ⟨h, hin⟩ := and2 h
      obtain ⟨h, htg⟩ := and2 h
      obtain ⟨h, hit⟩ := and2 h
      obtain ⟨hb, pl⟩ := and2 h
      refine (pe_lc (own := own) C.calm (by rw [C.hN]; exact C.nd) (sIt it C _ _ hit) (blkOk_by (by rw [C.hN, C.hsc]; exact hb)) (fun s H c cl fp => sTg (C.blk s H _ c cl fp) _ _ htg) (fun s H c cl fp => pts_one (sT t (C.blk s H _ c cl fp) _ ht).1) (fun s H c cl fp => sX x (C.blk s H _ c cl fp) _ hx) (folded_of pl _)).imp fun σ H Q h => s_comp C (of_decide_eq_true hin) h
    · cases h
theorem sXs : ∀ (xs : XS) {X : Cx} {sc : Scope} {fnb : Str → Bool} {W : WX} (C : Ctx X Tb N sc fnb n E CA W) (es : List Expr), chkXs Tb N sc xs es = true → AllPE X Tb N sc E CA W xs es
  | .nil, X, sc, fnb, W, C, es, h => by
    unfold chkXs at h
    split at h
    · trivial
    · cases h
  | .cons x xs, X, sc, fnb, W, C, es, h => by
    unfold chkXs at h
    split at h
    · obtain ⟨h, h3⟩ := and2 h
      obtain ⟨h1, h2⟩ := and2 h
      have hx := sX x C _ h2
      exact ⟨⟨h1, hx, pe_p C h2 hx⟩, sXs xs C _ h3⟩
    · cases h
theorem sT : ∀ (t : T) {X : Cx} {sc : Scope} {fnb : Str → Bool} {W : WX} (C : Ctx X Tb N sc fnb n E CA W) (f : Expr), chkT Tb N sc t f = true → PT X f (denT X.K CA W (evT E t)) ∧ ∀ op vs pos, f = .BoolOp op vs pos → PW X f (denT X.K CA W (evT E t))
  | .tru, X, sc, fnb, W, C, f, h => by unfold chkT at h; cases h
  | .x e, X, sc, fnb, W, C, f, h => by
    unfold chkT at h
    obtain ⟨h1, h2⟩ := and2 h
    refine ⟨t_x h1 (pe_p C h2 (sX e C _ h2)), fun op vs pos e => ?_⟩
    subst e
    cases h1
  | .isN neg a, X, sc, fnb, W, C, f, h => by
    unfold chkT at h
    split at h
    · obtain ⟨h1, h2⟩ := and2 h
      have : neg = false := by cases neg with
        | false => rfl
        | true => cases h1
      subst this
      exact ⟨t_isN rfl (pe_p C h2 (sX a C _ h2)), fun op vs pos e => by cases e⟩
    · obtain ⟨h1, h2⟩ := and2 h
      subst h1
      exact ⟨t_isN rfl (pe_p C h2 (sX a C _ h2)), fun op vs pos e => by cases e⟩
    · cases h
  | .cmp o a b, X, sc, fnb, W, C, f, h => by
    unfold chkT at h
    split at h
    · obtain ⟨h, hb⟩ := and2 h
      obtain ⟨h, ha⟩ := and2 h
      obtain ⟨h1, pr⟩ := and2 h
      exact ⟨t_cmp C (of_decide_eq_true h1) pr (pe_p C ha (sX a C _ ha)) (pe_p C hb (sX b C _ hb)), fun op vs pos e => by cases e⟩
    · cases h
  | .cmp2 o p a b c, X, sc, fnb, W, C, f, h => by
    unfold chkT at h
    split at h
    · obtain ⟨h, hc⟩ := and2 h
      obtain ⟨h, hb⟩ := and2 h
      obtain ⟨h, ha⟩ := and2 h
      obtain ⟨h, pq⟩ := and2 h
      obtain ⟨h, pr⟩ := and2 h
      obtain ⟨h1, h2⟩ := and2 h
      exact ⟨t_cmp2 C (of_decide_eq_true h1) (of_decide_eq_true h2) pq (pe_p C ha (sX a C _ ha)) (pe_p C hb (sX b C _ hb)) (pe_p C hc (sX c C _ hc)), fun op vs pos e => by cases e⟩
    · cases h
  | .and a b, X, sc, fnb, W, C, f, h => by
    unfold chkT at h
    split at h
    · obtain ⟨ha, hb⟩ := and2 h
      have := t_and (sT a C _ ha).1 (pw_and1 (pos := by assumption) (sT b C _ hb).1)
      exact ⟨this.pt, fun _ _ _ _ => this⟩
    · obtain ⟨ha, hb⟩ := and2 h
      have := t_and (sT a C _ ha).1 ((sT b C _ hb).2 _ _ _ rfl)
      exact ⟨this.pt, fun _ _ _ _ => this⟩
    · cases h
  | .or a b, X, sc, fnb, W, C, f, h => by
    unfold chkT at h
    split at h
    · obtain ⟨ha, hb⟩ := and2 h
      have := t_or (sT a C _ ha).1 (pw_or1 (pos := by assumption) (sT b C _ hb).1)
      exact ⟨this.pt, fun _ _ _ _ => this⟩
    · obtain ⟨ha, hb⟩ := and2 h
      have := t_or (sT a C _ ha).1 ((sT b C _ hb).2 _ _ _ rfl)
      exact ⟨this.pt, fun _ _ _ _ => this⟩
    · cases h
  | .not a, X, sc, fnb, W, C, f, h => by
    unfold chkT at h
    split at h
    · exact ⟨t_not (sT a C _ h).1, fun op vs pos e => by cases e⟩
    · cases h
theorem sIt : ∀ (it : It) {X : Cx} {sc : Scope} {fnb : Str → Bool} {W : WX} (C : Ctx X Tb N sc fnb n E CA W) (e tg : Expr), chkIt Tb N sc it e tg = true → PI X tg e (denI X.K CA W it (evIt E it))
  | .seq x, X, sc, fnb, W, C, e, tg, h => by
    unfold chkIt at h
    exact it_seq (pe_p C h (sX x C _ h))
  | .rng x, X, sc, fnb, W, C, e, tg, h => by
    unfold chkIt at h
    split at h
    · obtain ⟨h, hx⟩ := and2 h
      obtain ⟨h, pl⟩ := and2 h
      obtain ⟨h1, hg⟩ := and2 h
      have e1 := of_decide_eq_true h1
      subst e1
      exact it_rng C hg pl (pe_p C hx (sX x C _ hx))
    · cases h
  | .rng2 x y, X, sc, fnb, W, C, e, tg, h => by
    unfold chkIt at h
    split at h
    · obtain ⟨h, hy⟩ := and2 h
      obtain ⟨h, hx⟩ := and2 h
      obtain ⟨h, pl2⟩ := and2 h
      obtain ⟨h, pl⟩ := and2 h
      obtain ⟨h1, hg⟩ := and2 h
      have e1 := of_decide_eq_true h1
      subst e1
      exact it_rng2 C hg pl pl2 (pe_p C hx (sX x C _ hx)) (pe_p C hy (sX y C _ hy))
    · cases h
  | .enum x, X, sc, fnb, W, C, e, tg, h => by
    unfold chkIt at h
    split at h
    · obtain ⟨h, hx⟩ := and2 h
      obtain ⟨h, pl⟩ := and2 h
      obtain ⟨h, ht⟩ := and2 h
      obtain ⟨h1, hg⟩ := and2 h
      have e1 := of_decide_eq_true h1
      subst e1
      exact it_enum C ht hg pl (pe_p C hx (sX x C _ hx))
    · cases h
  | .zip x y, X, sc, fnb, W, C, e, tg, h => by
    unfold chkIt at h
    split at h
    · obtain ⟨h, hy⟩ := and2 h
      obtain ⟨h, hx⟩ := and2 h
      obtain ⟨h, pl2⟩ := and2 h
      obtain ⟨h, pl⟩ := and2 h
      obtain ⟨h, ht⟩ := and2 h
      obtain ⟨h1, hg⟩ := and2 h
      have e1 := of_decide_eq_true h1
      subst e1
      exact it_zip C ht hg pl pl2 (pe_p C hx (sX x C _ hx)) (pe_p C hy (sX y C _ hy))
    · cases h
  | .rev x, X, sc, fnb, W, C, e, tg, h => by
    unfold chkIt at h
    split at h
    · obtain ⟨h, hx⟩ := and2 h
      obtain ⟨h, pl⟩ := and2 h
      obtain ⟨h1, hg⟩ := and2 h
      have e1 := of_decide_eq_true h1
      subst e1
      exact it_rev C hg pl (pe_p C hx (sX x C _ hx))
    · cases h
end
end
end Den
set_option Elab.async false
set_option linter.all false
set_option maxRecDepth 100000
set_option autoImplicit false
set_option maxHeartbeats 4000000
namespace Den
open PySem PySem.Spec PyProof.Rows L2
/-! ### except suites -/
/-- what is known of the exception classes -/
structure ExcClass (K : PySem.W.Frag) (mg : Str → Option Value) (x : Str) (C : Addr) : Prop where
  g : mg x = some (.ref C)
  ex : PySem.W.excIn K C [.type "ValueError", .type "Exception", .type "BaseException", .type "object"] "ValueError.__new__" = true
  kp : PySem.W.keepIn K (.ref C) = true
  sb : PySem.W.subIn K (.ref C) (.type "BaseException") = some true
  ty : PySem.W.typeIn K (.ref C) = some (.type "type")
  ec : ExcC K C
  ve : PySem.W.kitOne K (.ref C) (.type "ValueError") = some true
structure ExcTab (K : PySem.W.Frag) (mg : Str → Option Value) (Tb : Tab) (sub : Nat → Nat → Option Bool) (CA : Nat → Option Addr) : Prop where
  cls : ∀ c x, Tb.exs[c]? = some x → ∃ C, CA c = some C ∧ ExcClass K mg x C
  kit : ∀ c c' b C C', sub c c' = some b → CA c = some C → CA c' = some C' → PySem.W.exmOne K (.ref C) (.ref C') = some b ∧ PySem.W.kitOne K (.ref C) (.ref C') = some b
  lt : ∀ c c' b, sub c c' = some b → c < Tb.exs.length ∧ c' < Tb.exs.length
section
variable (Tb : Tab) (N : List Str) (ei : Option Nat)
/-- isinstance(e, X) and the like -/
def chkBE (sc : Scope) : BE → Expr → Bool
  | .isc k, e => match e with
    | .Call (.Name f _) [.Name x _, .Name t _] [] _ => decide (f = "isinstance") && glT Tb sc f && glB sc t && decide (Tb.exs[k]? = some t) && (match ei with | some i => nameB N sc i x | none => false)
    | _ => false
  | .isv, e => match e with
    | .Call (.Name f _) [.Name x _, .Name t _] [] _ => decide (f = "isinstance") && glT Tb sc f && decide (t = "ValueError") && glT Tb sc t && (match ei with | some i => nameB N sc i x | none => false)
    | _ => false
  | .and a b, e => match e with
    | .BoolOp .And [v, w] _ => chkBE sc a v && chkBE sc b w
    | .BoolOp .And (v :: w :: u :: rest) pos => chkBE sc a v && chkBE sc b (.BoolOp .And (w :: u :: rest) pos)
    | _ => false
  | .or a b, e => match e with
    | .BoolOp .Or [v, w] _ => chkBE sc a v && chkBE sc b w
    | .BoolOp .Or (v :: w :: u :: rest) pos => chkBE sc a v && chkBE sc b (.BoolOp .Or (w :: u :: rest) pos)
    | _ => false
  | .not a, e => match e with
    | .UnaryOp .Not e _ => chkBE sc a e
    | _ => false
/-- .. as a test -/
def chkBT (sc : Scope) : BE → Expr → Bool
  | .and a b, e => match e with
    | .BoolOp .And [v, w] _ => chkBT sc a v && chkBT sc b w
    | .BoolOp .And (v :: w :: u :: rest) pos => chkBT sc a v && chkBT sc b (.BoolOp .And (w :: u :: rest) pos)
    | _ => false
  | .or a b, e => match e with
    | .BoolOp .Or [v, w] _ => chkBT sc a v && chkBT sc b w
    | .BoolOp .Or (v :: w :: u :: rest) pos => chkBT sc a v && chkBT sc b (.BoolOp .Or (w :: u :: rest) pos)
    | _ => false
  | .not a, e => match e with
    | .UnaryOp .Not e _ => chkBT sc a e
    | _ => false
  | b, e => plainT e && chkBE Tb N ei sc b e
mutual
def chkHX (sc : Scope) : HX → Expr → Bool
  | .lit d, e => match d, e with
    | .int i, .Constant (.int j) _ _ => decide (i = j)
    | .str i, .Constant (.str j) _ _ => decide (i = j)
    | .bl i, .Constant (.bool j) _ _ => decide (i = j)
    | .non, .Constant .none _ _ => true
    | _, _ => false
  | .var i, e => match e with
    | .Name x _ => nameB N sc i x
    | _ => false
  | .be b, e => chkBE Tb N ei sc b e
  | .fld f, e => false
  | .inc i k, e => match e with
    | .BinOp (.Name x _) .Add (.Constant (.int j) _ _) _ => nameB N sc i x && decide (j = k)
    | _ => false
  | .tup xs, e => match e with
    | .Tuple es _ _ => chkHXs sc xs es
    | _ => false
def chkHXs (sc : Scope) : List HX → List Expr → Bool
  | [], es => match es with
    | [] => true
    | _ => false
  | x :: xs, es => match es with
    | e :: es => plain e && chkHX sc x e && chkHXs sc xs es
    | _ => false
end
def noComp : Expr → Bool
  | .ListComp .. => false | .SetComp .. => false | .DictComp .. => false | _ => true
def locB (sc : Scope) (i : Nat) (y : Str) : Bool := okName y && decide (N[i]? = some y) && (decide (sc.names.lookup y = some .local) || decide (sc.names.lookup y = some .cell))
mutual
def chkH (sc : Scope) : HC → Stmt → Bool
  | .pass, s => match s with | .Pass _ => true | _ => false
  | .brk, s => match s with | .Break _ => true | _ => false
  | .cont, s => match s with | .Continue _ => true | _ => false
  | .ret x, s => match s with | .Return (some e) _ => chkHX Tb N ei sc x e | _ => false
  | .retn, s => match s with | .Return none _ => true | _ => false
  | .set i x, s => match s with
    | .Assign [.Name y _] e _ => locB N sc i y && decide (ei ≠ some i) && noComp e && chkHX Tb N ei sc x e
    | _ => false
  | .iff b p q, s => match s with
    | .If c p' q' _ => chkBT Tb N ei sc b c && chkHs sc p p' && chkHs sc q q'
    | _ => false
def chkHs (sc : Scope) : List HC → List Stmt → Bool
  | [], ss => match ss with | [] => true | _ => false
  | c :: cs, ss => match ss with
    | s :: ss => chkH sc c s && chkHs sc cs ss
    | [] => false
end
end
/-- the context within a suite -/
structure CtxH (X : Cx) (a : Addr) (oe : Obj) (cls : Value) (d : Option Addr) (pn : List (Addr × Obj)) (Tb : Tab) (N : List Str) (sc : Scope) (sub : Nat → Nat → Option Bool) (CA : Nat → Option Addr) : Prop where
  hN : X.N = N
  nd : N.Nodup
  hsc : X.env.scope = sc
  hfn : ∀ x, X.fn x = true
  bi : ∀ x, Tb.bi.contains x = true → X.mg x = none
  ex : ExcTab X.K X.mg Tb sub CA
  hz : Zc cls d oe
  hf : ∃ vs, oe.data = .fields vs
/-- what holds within it: the error's class, what it carries, its name -/
structure HOk (a : Addr) (cls : Value) (d : Option Addr) (ei : Option Nat) (c : Nat) (p : List (Str × D)) (F : Fr) (G H : Hp) (σ : L2.St) (s : S) : Prop where
  R : RS F G H σ s
  e : ExcOk F G H c p cls d
  nm : ∀ i, ei = some i → σ[i]? = some (some (.ref a)) ∧ s.slot i = none
theorem ExcOk.mono {F : Fr} {G G' H H' : Hp} {c : Nat} {p : List (Str × D)} {cls : Value} {d : Option Addr} (h : ExcOk F G H c p cls d) (x : Ex G G') : ExcOk F G' H' c p cls d := by
  cases h with
  | non a b => exact .non a b
  | dict a b c d e => exact .dict a (x _ _ b) c (d.mono x) e
section
variable {X : Cx} {a : Addr} {oe : Obj} {cls : Value} {d : Option Addr} {pn : List (Addr × Obj)} {Tb : Tab} {N : List Str} {sc : Scope} {sub : Nat → Nat → Option Bool} {CA : Nat → Option Addr} {ei : Option Nat}
def denB (K : PySem.W.Frag) (CA : Nat → Option Addr) (sub : Nat → Nat → Option Bool) (a : Addr) (cls : Value) (d : Option Addr) (ei : Option Nat) (b : BE) : TT := fun σ H Q =>
  ∃ F G s c p r, F.K = K ∧ F.CA = CA ∧ HOk a cls d ei c p F G H σ s ∧ (d = none) ∧ evBE sub c b = some r ∧ Q r H
def denBV (K : PySem.W.Frag) (CA : Nat → Option Addr) (sub : Nat → Nat → Option Bool) (a : Addr) (cls : Value) (d : Option Addr) (ei : Option Nat) (b : BE) : TE := fun σ H Q =>
  ∃ F G s c p r, F.K = K ∧ F.CA = CA ∧ HOk a cls d ei c p F G H σ s ∧ (d = none) ∧ evBE sub c b = some r ∧ Q (.bl r) H
theorem CtxH.name (C : CtxH X a oe cls d pn Tb N sc sub CA) {i : Nat} {x : Str} {pos : Pos} (h : nameB N sc i x = true) : PE (X.suite a ((a, oe) :: pn)) (.Name x pos) (tVar i) := by
  unfold nameB visB at h
  rw [Bool.and_eq_true, Bool.and_eq_true, decide_eq_true_eq] at h
  obtain ⟨d1, d2, _⟩ := okName_dbg h.1.1
  refine pe_var (X := X.suite a ((a, oe) :: pn)) (show X.N[i]? = some x by rw [C.hN]; exact h.2) ?_ d1 d2
  show Vis X.env.scope x
  rw [C.hsc]
  unfold Vis
  have := h.1.2
  split at this <;> first | (rename_i q; exact .inl q) | (rename_i q; exact .inr (.inl q)) | (rename_i q; exact .inr (.inr q)) | cases this
theorem CtxH.gl (C : CtxH X a oe cls d pn Tb N sc sub CA) {x : Str} (h : glB sc x = true) : Gl (X.suite a ((a, oe) :: pn)) x ∧ okName x = true := by
  unfold glB at h
  rw [Bool.and_eq_true, decide_eq_true_eq] at h
  exact ⟨by show X.env.scope.names.lookup x = some .globalImplicit; rw [C.hsc]; exact h.2, h.1⟩
theorem CtxH.glT (C : CtxH X a oe cls d pn Tb N sc sub CA) {x : Str} (h : glT Tb sc x = true) : Gl (X.suite a ((a, oe) :: pn)) x ∧ okName x = true ∧ X.mg x = none := by
  unfold Den.glT at h
  rw [Bool.and_eq_true] at h
  obtain ⟨g, o⟩ := C.gl h.1
  exact ⟨g, o, C.bi x h.2⟩
theorem b0_isinstance : bootBuiltins "isinstance" = some (.builtin "isinstance") := My.b0_isinstance
theorem s_be (C : CtxH X a oe cls d pn Tb N sc sub CA) : ∀ (b : BE) (e : Expr), chkBE Tb N ei sc b e = true → PE (X.suite a ((a, oe) :: pn)) e (denBV X.K CA sub a cls d ei b)
  | .isc k, e, h => by
    unfold chkBE at h
    split at h
    · rename_i f _ x _ t _ _ _
      obtain ⟨h, h5⟩ := and2 h
      obtain ⟨h, h4⟩ := and2 h
      obtain ⟨h, h3⟩ := and2 h
      obtain ⟨h1, h2⟩ := and2 h
      have e1 := of_decide_eq_true h1
      subst e1
      split at h5
      · rename_i i
        obtain ⟨g, o, m⟩ := C.glT h2
        obtain ⟨d1, d2, d3⟩ := okName_dbg o
        obtain ⟨g', o'⟩ := C.gl h3
        obtain ⟨C', hC', ec'⟩ := C.ex.cls k _ (of_decide_eq_true h4)
        refine ⟨fun pins s σ H Q I hh => ?_⟩
        obtain ⟨F, G, s', c, p, r, hK, hC, ho, hd, hr, q⟩ := hh
        subst hd
        obtain ⟨hc, _⟩ := C.ex.lt c k r hr
        obtain ⟨C1, hC1, ec1⟩ := C.ex.cls c _ (List.getElem?_eq_getElem hc)
        have hcls : cls = .ref C1 := by
          cases ho.e with
          | non q1 q2 => rw [hC, hC1] at q1; cases q1; rfl
        have hz := C.hz
        subst hcls
        obtain ⟨k1, k2⟩ := C.ex.kit c k r C1 C' hr hC1 hC'
        exact (pe_callB (call_isE (X := X) (a := a) (oe := oe) (pn := pn) ec1.ec hz C.hf) g m b0_isinstance (pa_cons (C.name h5) (pa_cons (pe_glob g' ec'.g (v := .ref C') rfl (okName_dbg o').1) pa_nil)) d3 d1).run pins s σ H Q I ⟨_, (ho.nm i rfl).1, _, _, _, rfl, fun u ru => ru, k2, q⟩
      · cases h5
    · cases h
  | .isv, e, h => by
    unfold chkBE at h
    split at h
    · rename_i f _ x _ t _ _ _
      obtain ⟨h, h5⟩ := and2 h
      obtain ⟨h, h4⟩ := and2 h
      obtain ⟨h, h3⟩ := and2 h
      obtain ⟨h1, h2⟩ := and2 h
      have e1 := of_decide_eq_true h1
      subst e1
      have e3 := of_decide_eq_true h3
      subst e3
      split at h5
      · rename_i i
        obtain ⟨g, o, m⟩ := C.glT h2
        obtain ⟨d1, d2, d3⟩ := okName_dbg o
        obtain ⟨g', o', m'⟩ := C.glT h4
        refine ⟨fun pins s σ H Q I hh => ?_⟩
        obtain ⟨F, G, s', c, p, r, hK, hC, ho, hd, hr, q⟩ := hh
        subst hd
        replace hr : (sub c c).map (fun _ => true) = some r := hr
        cases hq : sub c c with
        | none => rw [hq] at hr; cases hr
        | some b0 =>
          rw [hq] at hr
          cases hr
          obtain ⟨hc, _⟩ := C.ex.lt c c b0 hq
          obtain ⟨C1, hC1, ec1⟩ := C.ex.cls c _ (List.getElem?_eq_getElem hc)
          have hcls : cls = .ref C1 := by
            cases ho.e with
            | non q1 q2 => rw [hC, hC1] at q1; cases q1; rfl
          have hz := C.hz
          subst hcls
          exact (pe_callB (call_isE (X := X) (a := a) (oe := oe) (pn := pn) ec1.ec hz C.hf) g m b0_isinstance (pa_cons (C.name h5) (pa_cons (pe_bltn (v := .ty "ValueError") g' m' My.b0_ValueError rfl (okName_dbg o').2.2 (okName_dbg o').1) pa_nil)) d3 d1).run pins s σ H Q I ⟨_, (ho.nm i rfl).1, _, _, _, rfl, fun u ru => ru, ec1.ve, q⟩
      · cases h5
    · cases h
  | .and p q, e, h => by
    have fin : ∀ {v w : Expr} {rest : List Expr} {pos : Pos}, PE (X.suite a ((a, oe) :: pn)) v (denBV X.K CA sub a cls d ei p) → PE (X.suite a ((a, oe) :: pn)) (.BoolOp .And (w :: rest) pos) (denBV X.K CA sub a cls d ei q) → PE (X.suite a ((a, oe) :: pn)) (.BoolOp .And (v :: w :: rest) pos) (denBV X.K CA sub a cls d ei (.and p q)) := fun h1 h2 => by
      refine (pe_and h1 h2).imp fun σ H Q ⟨F, G, s', c, pl, r, hK, hC, ho, hd, hr, q'⟩ => ?_
      replace hr : (match evBE sub c p with | some true => evBE sub c q | o => o) = some r := hr
      cases hp : evBE sub c p with
      | none => rw [hp] at hr; cases hr
      | some b1 =>
        rw [hp] at hr
        refine ⟨F, G, s', c, pl, b1, hK, hC, ho, hd, hp, b1, rfl, ?_⟩
        cases b1 with
        | true => rw [if_pos rfl]; exact ⟨F, G, s', c, pl, r, hK, hC, ho, hd, hr, q'⟩
        | false => rw [if_neg Bool.false_ne_true]; cases hr; exact q'
    unfold chkBE at h
    split at h
    · obtain ⟨h1, h2⟩ := and2 h
      exact fin (s_be C p _ h1) (pe_one (s_be C q _ h2))
    · obtain ⟨h1, h2⟩ := and2 h
      exact fin (s_be C p _ h1) (s_be C q _ h2)
    · cases h
  | .or p q, e, h => by
    have fin : ∀ {v w : Expr} {rest : List Expr} {pos : Pos}, PE (X.suite a ((a, oe) :: pn)) v (denBV X.K CA sub a cls d ei p) → PE (X.suite a ((a, oe) :: pn)) (.BoolOp .Or (w :: rest) pos) (denBV X.K CA sub a cls d ei q) → PE (X.suite a ((a, oe) :: pn)) (.BoolOp .Or (v :: w :: rest) pos) (denBV X.K CA sub a cls d ei (.or p q)) := fun h1 h2 => by
      refine (pe_or h1 h2).imp fun σ H Q ⟨F, G, s', c, pl, r, hK, hC, ho, hd, hr, q'⟩ => ?_
      replace hr : (match evBE sub c p with | some false => evBE sub c q | o => o) = some r := hr
      cases hp : evBE sub c p with
      | none => rw [hp] at hr; cases hr
      | some b1 =>
        rw [hp] at hr
        refine ⟨F, G, s', c, pl, b1, hK, hC, ho, hd, hp, b1, rfl, ?_⟩
        cases b1 with
        | true => rw [if_pos rfl]; cases hr; exact q'
        | false => rw [if_neg Bool.false_ne_true]; exact ⟨F, G, s', c, pl, r, hK, hC, ho, hd, hr, q'⟩
    unfold chkBE at h
    split at h
    · obtain ⟨h1, h2⟩ := and2 h
      exact fin (s_be C p _ h1) (pe_one (s_be C q _ h2))
    · obtain ⟨h1, h2⟩ := and2 h
      exact fin (s_be C p _ h1) (s_be C q _ h2)
    · cases h
  | .not p, e, h => by
    unfold chkBE at h
    split at h
    · refine (pe_not (s_be C p _ h)).imp fun σ H Q ⟨F, G, s', c, pl, r, hK, hC, ho, hd, hr, q'⟩ => ?_
      replace hr : (evBE sub c p).map (!·) = some r := hr
      cases hp : evBE sub c p with
      | none => rw [hp] at hr; cases hr
      | some b1 =>
        rw [hp] at hr
        cases hr
        exact ⟨F, G, s', c, pl, b1, hK, hC, ho, hd, hp, b1, rfl, q'⟩
    · cases h
theorem bt_val (b : BE) {e : Expr} (pt : plainT e = true) (h : PE (X.suite a ((a, oe) :: pn)) e (denBV X.K CA sub a cls d ei b)) : PT (X.suite a ((a, oe) :: pn)) e (denB X.K CA sub a cls d ei b) :=
  (pt_val h (true_of pt _)).imp fun σ H Q ⟨F, G, s', c, pl, r, hK, hC, ho, hd, hr, q'⟩ => ⟨F, G, s', c, pl, r, hK, hC, ho, hd, hr, r, rfl, q'⟩
theorem s_bt (C : CtxH X a oe cls d pn Tb N sc sub CA) : ∀ (b : BE) (e : Expr), chkBT Tb N ei sc b e = true → PT (X.suite a ((a, oe) :: pn)) e (denB X.K CA sub a cls d ei b) ∧ ∀ op vs pos, e = .BoolOp op vs pos → PW (X.suite a ((a, oe) :: pn)) e (denB X.K CA sub a cls d ei b)
  | .isc k, e, h => by
    unfold chkBT at h
    obtain ⟨h1, h2⟩ := and2 h
    exact ⟨bt_val _ h1 (s_be C _ e h2), fun op vs pos z => by subst z; cases h1⟩
  | .isv, e, h => by
    unfold chkBT at h
    obtain ⟨h1, h2⟩ := and2 h
    exact ⟨bt_val _ h1 (s_be C _ e h2), fun op vs pos z => by subst z; cases h1⟩
  | .and p q, e, h => by
    have fin : ∀ {v w : Expr} {rest : List Expr} {pos : Pos}, PT (X.suite a ((a, oe) :: pn)) v (denB X.K CA sub a cls d ei p) → PW (X.suite a ((a, oe) :: pn)) (.BoolOp .And (w :: rest) pos) (denB X.K CA sub a cls d ei q) → PW (X.suite a ((a, oe) :: pn)) (.BoolOp .And (v :: w :: rest) pos) (denB X.K CA sub a cls d ei (.and p q)) := fun h1 h2 => by
      refine (pw_and h1 h2).imp fun σ H Q ⟨F, G, s', c, pl, r, hK, hC, ho, hd, hr, q'⟩ => ?_
      replace hr : (match evBE sub c p with | some true => evBE sub c q | o => o) = some r := hr
      cases hp : evBE sub c p with
      | none => rw [hp] at hr; cases hr
      | some b1 =>
        rw [hp] at hr
        refine ⟨F, G, s', c, pl, b1, hK, hC, ho, hd, hp, ?_⟩
        cases b1 with
        | true => rw [if_pos rfl]; exact ⟨F, G, s', c, pl, r, hK, hC, ho, hd, hr, q'⟩
        | false => rw [if_neg Bool.false_ne_true]; cases hr; exact q'
    unfold chkBT at h
    split at h
    · obtain ⟨h1, h2⟩ := and2 h
      have := fin (s_bt C p _ h1).1 (pw_and1 (pos := by assumption) (s_bt C q _ h2).1)
      exact ⟨this.pt, fun _ _ _ _ => this⟩
    · obtain ⟨h1, h2⟩ := and2 h
      have := fin (s_bt C p _ h1).1 ((s_bt C q _ h2).2 _ _ _ rfl)
      exact ⟨this.pt, fun _ _ _ _ => this⟩
    · cases h
  | .or p q, e, h => by
    have fin : ∀ {v w : Expr} {rest : List Expr} {pos : Pos}, PT (X.suite a ((a, oe) :: pn)) v (denB X.K CA sub a cls d ei p) → PW (X.suite a ((a, oe) :: pn)) (.BoolOp .Or (w :: rest) pos) (denB X.K CA sub a cls d ei q) → PW (X.suite a ((a, oe) :: pn)) (.BoolOp .Or (v :: w :: rest) pos) (denB X.K CA sub a cls d ei (.or p q)) := fun h1 h2 => by
      refine (pw_or h1 h2).imp fun σ H Q ⟨F, G, s', c, pl, r, hK, hC, ho, hd, hr, q'⟩ => ?_
      replace hr : (match evBE sub c p with | some false => evBE sub c q | o => o) = some r := hr
      cases hp : evBE sub c p with
      | none => rw [hp] at hr; cases hr
      | some b1 =>
        rw [hp] at hr
        refine ⟨F, G, s', c, pl, b1, hK, hC, ho, hd, hp, ?_⟩
        cases b1 with
        | true => rw [if_pos rfl]; cases hr; exact q'
        | false => rw [if_neg Bool.false_ne_true]; exact ⟨F, G, s', c, pl, r, hK, hC, ho, hd, hr, q'⟩
    unfold chkBT at h
    split at h
    · obtain ⟨h1, h2⟩ := and2 h
      have := fin (s_bt C p _ h1).1 (pw_or1 (pos := by assumption) (s_bt C q _ h2).1)
      exact ⟨this.pt, fun _ _ _ _ => this⟩
    · obtain ⟨h1, h2⟩ := and2 h
      have := fin (s_bt C p _ h1).1 ((s_bt C q _ h2).2 _ _ _ rfl)
      exact ⟨this.pt, fun _ _ _ _ => this⟩
    · cases h
  | .not p, e, h => by
    unfold chkBT at h
    split at h
    · refine ⟨(pt_not (s_bt C p _ h).1).imp fun σ H Q ⟨F, G, s', c, pl, r, hK, hC, ho, hd, hr, q'⟩ => ?_, fun op vs pos z => by cases z⟩
      replace hr : (evBE sub c p).map (!·) = some r := hr
      cases hp : evBE sub c p with
      | none => rw [hp] at hr; cases hr
      | some b1 =>
        rw [hp] at hr
        cases hr
        exact ⟨F, G, s', c, pl, b1, hK, hC, ho, hd, hp, q'⟩
    · cases h
end
end Den
set_option Elab.async false
set_option linter.all false
set_option maxRecDepth 100000
set_option autoImplicit false
set_option maxHeartbeats 4000000
namespace Den
open PySem PySem.Spec PyProof.Rows L2
section
variable {X : Cx} {a : Addr} {oe : Obj} {cls : Value} {d : Option Addr} {pn : List (Addr × Obj)} {Tb : Tab} {N : List Str} {sc : Scope} {sub : Nat → Nat → Option Bool} {CA : Nat → Option Addr} {ei : Option Nat}
def denV (K : PySem.W.Frag) (CA : Nat → Option Addr) (sub : Nat → Nat → Option Bool) (a : Addr) (cls : Value) (d : Option Addr) (ei : Option Nat) (x : HX) : TE := fun σ H Q =>
  ∃ F G s c p d' s', F.K = K ∧ F.CA = CA ∧ HOk a cls d ei c p F G H σ s ∧ evHX sub c p x s = some (d', s') ∧ ∀ v G' H', Ex G G' → HOk a cls d ei c p F G' H' σ s' → Rep F.K F.CA G' v d' → Q v H'
def denVs (K : PySem.W.Frag) (CA : Nat → Option Addr) (sub : Nat → Nat → Option Bool) (a : Addr) (cls : Value) (d : Option Addr) (ei : Option Nat) (xs : List HX) : TA := fun σ H Q =>
  ∃ F G s c p ds s', F.K = K ∧ F.CA = CA ∧ HOk a cls d ei c p F G H σ s ∧ evHXs sub c p xs s = some (ds, s') ∧ ∀ vs G' H', Ex G G' → HOk a cls d ei c p F G' H' σ s' → Reps F.K F.CA G' vs ds → Q vs H'
theorem exc_none {F : Fr} {G H : Hp} {c : Nat} {p : List (Str × D)} (h : ExcOk F G H c p cls d) (e : p.isEmpty = true) : d = none := by
  cases h with
  | non _ _ => rfl
  | dict _ _ _ _ q => cases p with
    | nil => exact absurd rfl q
    | cons _ _ => cases e
theorem move_none {s s' : S} {i j : Nat} {x : D} (h : s.move i = some (x, s')) (e : s.slot j = none) : s'.slot j = none := by
  unfold S.move at h
  split at h
  · cases h; exact e
  · rename_i d' hs
    cases h
    have hi := slot_env hs
    by_cases hj : i = j
    · subst hj; rw [hs] at e; cases e
    · unfold S.slot at e ⊢
      show ((s.env.set i (some (.shr x)))[j]?).bind id = none
      rw [List.getElem?_set_ne hj]
      exact e
  · cases h
theorem lit_pe {v : V} {x : D} {e : Expr} (hd : x.v = some v) (he : PE (X.suite a ((a, oe) :: pn)) e (tC v)) : PE (X.suite a ((a, oe) :: pn)) e (denV X.K CA sub a cls d ei (.lit x)) :=
  he.imp fun σ H Q ⟨F, G, s, c, p, d', s', hK, hC, ho, hv, q⟩ => by
    replace hv : (if x.flat = true then some (x, s) else none) = some (d', s') := hv
    split at hv
    · cases hv; exact q v G H (Evl.Ex.refl _) ho (Rep.ofV hd)
    · cases hv
mutual
theorem s_hx (C : CtxH X a oe cls d pn Tb N sc sub CA) : ∀ (x : HX) (e : Expr), chkHX Tb N ei sc x e = true → PE (X.suite a ((a, oe) :: pn)) e (denV X.K CA sub a cls d ei x)
  | .lit x, e, h => by
    unfold chkHX at h
    split at h
    · have := of_decide_eq_true h; subst this; exact lit_pe rfl pe_int
    · have := of_decide_eq_true h; subst this; exact lit_pe rfl pe_str
    · have := of_decide_eq_true h; subst this; exact lit_pe rfl pe_bl
    · exact lit_pe rfl pe_non
    · cases h
  | .var i, e, h => by
    unfold chkHX at h
    split at h
    · refine (C.name h).imp fun σ H Q ⟨F, G, s, c, p, d', s', hK, hC, ho, hv, q⟩ => ?_
      replace hv : s.move i = some (d', s') := hv
      obtain ⟨G', v, x1, R1, e1, r1⟩ := ho.R.move hv
      exact ⟨v, e1, q v G' H x1 ⟨R1, ho.e.mono x1, fun j hj => ⟨(ho.nm j hj).1, move_none hv (ho.nm j hj).2⟩⟩ r1⟩
    · cases h
  | .be b, e, h => by
    unfold chkHX at h
    refine (s_be C b e h).imp fun σ H Q ⟨F, G, s, c, p, d', s', hK, hC, ho, hv, q⟩ => ?_
    replace hv : (if p.isEmpty = true then (evBE sub c b).map fun b => (D.bl b, s) else none) = some (d', s') := hv
    split at hv
    · rename_i hp
      cases hb : evBE sub c b with
      | none => rw [hb] at hv; cases hv
      | some r =>
        rw [hb] at hv
        cases hv
        exact ⟨F, G, s, c, p, r, hK, hC, ho, exc_none ho.e hp, hb, q _ G H (Evl.Ex.refl _) ho (.bl r)⟩
    · cases hv
  | .fld f, e, h => by unfold chkHX at h; cases h
  | .inc i k, e, h => by
    unfold chkHX at h
    split at h
    · obtain ⟨h1, h2⟩ := and2 h
      have := of_decide_eq_true h2
      subst this
      refine (pe_add (C.name h1) pe_int).imp fun σ H Q ⟨F, G, s, c, p, d', s', hK, hC, ho, hv, q⟩ => ?_
      replace hv : (match s.look (.at i) with | some (.int j) => some (D.int (j + _), s) | _ => none) = some (d', s') := hv
      split at hv
      · rename_i j hj
        cases hv
        have hj' : (s.slot i).bind s.data = some (.int j) := hj
        cases hs : s.slot i with
        | none => rw [hs] at hj'; cases hj'
        | some y =>
          obtain ⟨v, e1, _⟩ := ho.R.slots i y (slot_env hs)
          have := (ho.R.look (show PVOk F G σ v (.at i) from e1) hj).int
          subst this
          exact ⟨_, e1, _, _, rfl, rfl, q _ G H (Evl.Ex.refl _) ho (.int _)⟩
      · cases hv
    · cases h
  | .tup xs, e, h => by
    unfold chkHX at h
    split at h
    · refine (pe_tup (s_hxs C xs _ h)).imp fun σ H Q ⟨F, G, s, c, p, d', s', hK, hC, ho, hv, q⟩ => ?_
      replace hv : (match evHXs sub c p xs s with | some (ds, s1) => if ds.length ≤ lim then some (D.tup ds, s1) else none | none => none) = some (d', s') := hv
      cases hx : evHXs sub c p xs s with
      | none => rw [hx] at hv; cases hv
      | some r =>
        obtain ⟨ds, s1⟩ := r
        rw [hx] at hv
        replace hv : (if ds.length ≤ lim then some (D.tup ds, s1) else none) = some (d', s') := hv
        split at hv
        · rename_i hz
          cases hv
          refine ⟨F, G, s, c, p, ds, _, hK, hC, ho, hx, fun vs G' H' x1 ho1 rs => ⟨by rw [rs.length]; exact sz hz, fun p hp => ?_⟩⟩
          have g := Grow.newG (o := .tup vs) ho1.R.gh hp
          exact q _ _ _ (x1.trans g.g) ⟨ho1.R.grow g, ho1.e.mono g.g, ho1.nm⟩ (.tup (Evl.st_of upd_same) (rs.mono g.g))
        · cases hv
    · cases h
theorem s_hxs (C : CtxH X a oe cls d pn Tb N sc sub CA) : ∀ (xs : List HX) (es : List Expr), chkHXs Tb N ei sc xs es = true → PA (X.suite a ((a, oe) :: pn)) es (denVs X.K CA sub a cls d ei xs)
  | [], es, h => by
    unfold chkHXs at h
    split at h
    · refine pa_nil.imp fun σ H Q ⟨F, G, s, c, p, ds, s', hK, hC, ho, hv, q⟩ => ?_
      have hv : some (([] : List D), s) = some (ds, s') := hv
      cases hv
      exact q [] G H (Evl.Ex.refl _) ho .nil
    · cases h
  | x :: xs, es, h => by
    unfold chkHXs at h
    split at h
    · rename_i e es
      obtain ⟨h, h3⟩ := and2 h
      obtain ⟨h1, h2⟩ := and2 h
      refine (pa_cons (s_hx C x e h2) (s_hxs C xs es h3) (star_of h1 _ _)).imp fun σ H Q ⟨F, G, s, c, p, ds, s', hK, hC, ho, hv, q⟩ => ?_
      replace hv : (match evHX sub c p x s with | some (d, s1) => (match evHXs sub c p xs s1 with | some (ds, s2) => some (d :: ds, s2) | none => none) | none => none) = some (ds, s') := hv
      cases hx : evHX sub c p x s with
      | none => rw [hx] at hv; cases hv
      | some r =>
        obtain ⟨d1, s1⟩ := r
        rw [hx] at hv
        replace hv : (match evHXs sub c p xs s1 with | some (ds, s2) => some (d1 :: ds, s2) | none => none) = some (ds, s') := hv
        cases hy : evHXs sub c p xs s1 with
        | none => rw [hy] at hv; cases hv
        | some r =>
          obtain ⟨ds2, s2⟩ := r
          rw [hy] at hv
          cases hv
          exact ⟨F, G, s, c, p, d1, s1, hK, hC, ho, hx, fun v G1 H1 x1 ho1 r1 => ⟨F, G1, s1, c, p, ds2, _, hK, hC, ho1, hy, fun vs G2 H2 x2 ho2 rs => q _ G2 H2 (x1.trans x2) ho2 (.cons (r1.mono x2) rs)⟩⟩
    · cases h
end
/-! statements -/
def PostH (a : Addr) (cls : Value) (d : Option Addr) (ei : Option Nat) (c : Nat) (p : List (Str × D)) (F : Fr) (G0 : Hp) (D : Ends) : O → Prop
  | .nx s => ∀ σ G H, Ex G0 G → HOk a cls d ei c p F G H σ s → D.nx σ H
  | .bk s => ∀ σ G H, Ex G0 G → HOk a cls d ei c p F G H σ s → D.bk σ H
  | .ct s => ∀ σ G H, Ex G0 G → HOk a cls d ei c p F G H σ s → D.ct σ H
  | .rt x s => ∀ v σ G H, Ex G0 G → RS F G H σ s → Res F G H σ s v x → D.rt v H
  | .ex _ _ _ => True
  | .bad => False
def denH (K : PySem.W.Frag) (CA : Nat → Option Addr) (a : Addr) (cls : Value) (d : Option Addr) (ei : Option Nat) (m : Nat → List (Str × D) → S → O) : TS := fun D σ H =>
  ∃ F G s c p, F.K = K ∧ F.CA = CA ∧ HOk a cls d ei c p F G H σ s ∧ PostH a cls d ei c p F G D (m c p s)
theorem PostH.mono {c : Nat} {p : List (Str × D)} {F : Fr} {G G' : Hp} {D : Ends} {o : O} (x : Ex G G') (h : PostH a cls d ei c p F G D o) : PostH a cls d ei c p F G' D o := by
  cases o with
  | nx s => exact fun σ G2 H e => h σ G2 H (x.trans e)
  | bk s => exact fun σ G2 H e => h σ G2 H (x.trans e)
  | ct s => exact fun σ G2 H e => h σ G2 H (x.trans e)
  | rt y s => exact fun v σ G2 H e => h v σ G2 H (x.trans e)
  | ex _ _ _ => exact h
  | bad => exact h
theorem loc_of {Y : Cx} {N : List Str} {sc : Scope} {i : Nat} {y : Str} (hN : Y.N = N) (hsc : Y.env.scope = sc) (hfn : ∀ x, Y.fn x = true) (h : locB N sc i y = true) : Y.N[i]? = some y ∧ Loc Y.env.scope y ∧ (Y.fn y = true ∨ Y.env.scope.names.lookup y = some .local) := by
  unfold locB at h
  rw [Bool.and_eq_true, Bool.and_eq_true, Bool.or_eq_true, decide_eq_true_eq, decide_eq_true_eq, decide_eq_true_eq] at h
  refine ⟨by rw [hN]; exact h.1.2, ?_, .inl (hfn y)⟩
  rw [hsc]
  exact h.2
theorem sw_no {e : Expr} (h : noComp e = true) (t : Option Expr) (l : Nat) (env : PySem.Env) : swapsWith e t l env = pure false := by
  cases e <;> first | rfl | (exact Bool.noConfusion h)
mutual
theorem s_h (C : CtxH X a oe cls d pn Tb N sc sub CA) : ∀ (h : HC) (st : Stmt), chkH Tb N ei sc h st = true → PS (X.suite a ((a, oe) :: pn)) st (denH X.K CA a cls d ei fun c p => exH sub c p h)
  | .pass, st, h => by
    unfold chkH at h
    split at h
    · exact ps_pass.imp fun D σ H ⟨F, G, s, c, p, hK, hC, ho, P⟩ => P σ G H (Evl.Ex.refl _) ho
    · cases h
  | .brk, st, h => by
    unfold chkH at h
    split at h
    · exact ps_break.imp fun D σ H ⟨F, G, s, c, p, hK, hC, ho, P⟩ => P σ G H (Evl.Ex.refl _) ho
    · cases h
  | .cont, st, h => by
    unfold chkH at h
    split at h
    · exact ps_continue.imp fun D σ H ⟨F, G, s, c, p, hK, hC, ho, P⟩ => P σ G H (Evl.Ex.refl _) ho
    · cases h
  | .retn, st, h => by
    unfold chkH at h
    split at h
    · exact ps_retN.imp fun D σ H ⟨F, G, s, c, p, hK, hC, ho, P⟩ => P _ σ G H (Evl.Ex.refl _) ho.R (Res.shr .non)
    · cases h
  | .ret x, st, h => by
    unfold chkH at h
    split at h
    · refine (ps_ret (s_hx C x _ h)).imp fun D σ H ⟨F, G, s, c, p, hK, hC, ho, P⟩ => ?_
      have P : PostH a cls d ei c p F G D (match evHX sub c p x s with | some (d, s1) => .rt (.shr d) s1 | none => .bad) := P
      cases hx : evHX sub c p x s with
      | none => rw [hx] at P; exact P.elim
      | some r =>
        obtain ⟨d1, s1⟩ := r
        rw [hx] at P
        exact ⟨F, G, s, c, p, d1, s1, hK, hC, ho, hx, fun v G' H' x1 ho1 r1 => P v σ G' H' x1 ho1.R (Res.shr r1)⟩
    · cases h
  | .set i x, st, h => by
    unfold chkH at h
    split at h
    · obtain ⟨h, h4⟩ := and2 h
      obtain ⟨h, h3⟩ := and2 h
      obtain ⟨h1, h2⟩ := and2 h
      obtain ⟨l1, l2, l3⟩ := loc_of (Y := X.suite a ((a, oe) :: pn)) C.hN C.hsc C.hfn h1
      refine (ps_set (i := i) (X := X.suite a ((a, oe) :: pn)) (by show X.N.Nodup; rw [C.hN]; exact C.nd) l1 l2 (s_hx C x _ h4) (sw_no h3 _ _ _) l3).imp fun D σ H ⟨F, G, s, c, p, hK, hC, ho, P⟩ => ?_
      have P : PostH a cls d ei c p F G D (match evHX sub c p x s with | some (d, s1) => if i < s1.env.length then .nx (s1.put i (.shr d)) else .bad | none => .bad) := P
      cases hx : evHX sub c p x s with
      | none => rw [hx] at P; exact P.elim
      | some r =>
        obtain ⟨d1, s1⟩ := r
        rw [hx] at P
        have P : PostH a cls d ei c p F G D (if i < s1.env.length then .nx (s1.put i (.shr d1)) else .bad) := P
        split at P
        · refine ⟨F, G, s, c, p, d1, s1, hK, hC, ho, hx, fun v G' H' x1 ho1 r1 => P _ G' H' x1 ⟨ho1.R.put (Res.shr r1), ho1.e, fun j hj => ?_⟩⟩
          have hne : i ≠ j := fun z => of_decide_eq_true h2 (by rw [z]; exact hj)
          refine ⟨by rw [List.getElem?_set_ne hne]; exact (ho1.nm j hj).1, ?_⟩
          unfold S.slot
          show ((s1.env.set i (some (.shr d1)))[j]?).bind id = none
          rw [List.getElem?_set_ne hne]
          exact (ho1.nm j hj).2
        · exact P.elim
    · cases h
  | .iff b p q, st, h => by
    unfold chkH at h
    split at h
    · obtain ⟨h, h3⟩ := and2 h
      obtain ⟨h1, h2⟩ := and2 h
      refine (ps_if (s_bt C b _ h1).1 (s_hs C p _ h2) (s_hs C q _ h3)).imp fun D σ H ⟨F, G, s, c, pl, hK, hC, ho, P⟩ => ?_
      have P : PostH a cls d ei c pl F G D (if pl.isEmpty = true then match evBE sub c b with
        | some true => exHs sub c pl p s
        | some false => exHs sub c pl q s
        | none => .bad
        else .bad) := P
      split at P
      · rename_i hp
        cases hb : evBE sub c b with
        | none => rw [hb] at P; exact P.elim
        | some r =>
          rw [hb] at P
          refine ⟨F, G, s, c, pl, r, hK, hC, ho, exc_none ho.e hp, hb, ?_⟩
          cases r with
          | true => rw [if_pos rfl]; exact ⟨F, G, s, c, pl, hK, hC, ho, P⟩
          | false => rw [if_neg Bool.false_ne_true]; exact ⟨F, G, s, c, pl, hK, hC, ho, P⟩
      · exact P.elim
    · cases h
theorem s_hs (C : CtxH X a oe cls d pn Tb N sc sub CA) : ∀ (hs : List HC) (sts : List Stmt), chkHs Tb N ei sc hs sts = true → PSs (X.suite a ((a, oe) :: pn)) sts (denH X.K CA a cls d ei fun c p => exHs sub c p hs)
  | [], sts, h => by
    unfold chkHs at h
    split at h
    · exact pss_nil.imp fun D σ H ⟨F, G, s, c, p, hK, hC, ho, P⟩ => P σ G H (Evl.Ex.refl _) ho
    · cases h
  | x :: xs, sts, h => by
    unfold chkHs at h
    split at h
    · obtain ⟨h1, h2⟩ := and2 h
      refine (pss_cons (s_h C x _ h1) (s_hs C xs _ h2)).imp fun D σ H ⟨F, G, s, c, p, hK, hC, ho, P⟩ => ⟨F, G, s, c, p, hK, hC, ho, ?_⟩
      have P : PostH a cls d ei c p F G D ((exH sub c p x s).bind fun s1 => exHs sub c p xs s1) := P
      show PostH a cls d ei c p F G _ (exH sub c p x s)
      cases hx : exH sub c p x s with
      | nx s1 => rw [hx] at P; exact fun σ1 G1 H1 x1 ho1 => ⟨F, G1, s1, c, p, hK, hC, ho1, P.mono x1⟩
      | rt y s1 => rw [hx] at P; exact P
      | bk s1 => rw [hx] at P; exact P
      | ct s1 => rw [hx] at P; exact P
      | ex _ _ _ => rw [hx] at P; exact P
      | bad => rw [hx] at P; exact P
    · cases h
end
end
end Den
set_option Elab.async false
set_option linter.all false
set_option maxRecDepth 100000
set_option autoImplicit false
set_option maxHeartbeats 4000000
namespace Den
open PySem PySem.Spec PyProof.Rows L2
/-! ### statements: the check -/
section
variable (Tb : Tab) (N : List Str)
def chkSetC (sc : Scope) (y : Str) (py : Pos) : Den.X → Expr → Bool
  | .comp _ _ _ _ _, .ListComp _ [⟨_, _, _, 0⟩] scope pos => decide (sc.names.lookup y = some .local) && (py.line == pos.line) && !(scope.names.any fun (n, k) => n == y && (k == .local || k == .cell))
  | _, _ => false
mutual
def chkC (sc : Scope) : C → Stmt → Bool
  | .pass, s => match s with | .Pass _ => true | _ => false
  | .brk, s => match s with | .Break _ => true | _ => false
  | .cont, s => match s with | .Continue _ => true | _ => false
  | .expr e, s => match s with | .Expr x _ => noComp x && chkX Tb N sc e x | _ => false
  | .set i e, s => match s with
    | .Assign [.Name y py] x _ => locB N sc i y && (noComp x || chkSetC sc y py e x || decide (sc.names.lookup y = some .cell)) && chkX Tb N sc e x
    | _ => false
  | .setf i e, s => match s with
    | .Assign [.Name y py] x _ => locB N sc i y && (noComp x || chkSetC sc y py e x || decide (sc.names.lookup y = some .cell)) && chkX Tb N sc e x
    | _ => false
  | .asg t e, s => match s with
    | .Assign [.Tuple es k tp] x _ => !isTup x && noComp x && chkTg N sc (fun _ => true) t (.Tuple es k tp) && chkX Tb N sc e x
    | _ => false
  | .retn, s => match s with | .Return none _ => true | _ => false
  | .ret e, s => match s with | .Return (some x) _ => chkX Tb N sc e x | _ => false
  | .retv i, s => match s with | .Return (some (.Name x _)) _ => nameB N sc i x | _ => false
  | .setix i k e, s => match s with
    | .Assign [.Subscript (.Name x _) ix _] v _ => nameB N sc i x && plain ix && noComp v && chkX Tb N sc k ix && chkX Tb N sc e v
    | _ => false
  | .iff t p q _, s => match s with
    | .If c p' q' _ => chkT Tb N sc t c && chkCs sc p p' && chkCs sc q q'
    | _ => false
  | .for tg it b _, s => match s with
    | .For tge ite b' [] _ => plain ite && chkIt Tb N sc it ite tge && chkTg N sc (fun _ => true) tg tge && chkCs sc b b'
    | _ => false
  | .while t b _, s => match s with
    | .While c b' [] _ => chkT Tb N sc t c && chkCs sc b b'
    | _ => false
  | .raise c, s => match s with
    | .Raise (some (.Call (.Name x _) [.Constant (.str _) _ _] [] _)) none _ => glB sc x && decide (Tb.exs[c]? = some x)
    | _ => false
  | .try1 b c i h _, s => match i, s with
    | none, .Try b' [.ExceptHandler (some (.Name x _)) none (h0 :: hs) _] [] [] _ => glB sc x && decide (Tb.exs[c]? = some x) && chkCs sc b b' && chkHs Tb N none sc h (h0 :: hs)
    | some j, .Try b' [.ExceptHandler (some (.Name x _)) (some n) (h0 :: hs) _] [] [] _ => glB sc x && decide (Tb.exs[c]? = some x) && decide (N[j]? = some n) && decide (sc.names.lookup n = some .local) && chkCs sc b b' && chkHs Tb N (some j) sc h (h0 :: hs)
    | _, _ => false
def chkCs (sc : Scope) : List C → List Stmt → Bool
  | [], ss => match ss with | [] => true | _ => false
  | c :: cs, ss => match ss with
    | s :: ss => chkC sc c s && chkCs sc cs ss
    | [] => false
end
end
/-! ### the context of a def's body -/
structure CtxS (X : Cx) (Tb : Tab) (N : List Str) (sc : Scope) (n : Nat) (E : Env) (CA : Nat → Option Addr) (W : WX) : Prop where
  c : Ctx X Tb N sc (fun _ => true) n E CA W
  kind : sc.kind = .function
  hs : X.stack = X.env :: X.outer
  hf : X.env.frame = some X.env.locals
  po : PassesOwn (model X.prog X.w) X.A X.env X.xe
  ex : ExcTab X.K X.mg Tb E.sub CA
section
variable {F : Fr} {G G' H : Hp} {σ : L2.St} {W W' : WX} {D : Ends} {Q Q' : VK}
theorem PostS.mono {o : O} (x : Ex G G') (h : PostS W F G D o) : PostS W F G' D o := by
  cases o with
  | nx s => exact fun σ G2 H e => h σ G2 H (x.trans e)
  | bk s => exact fun σ G2 H e => h σ G2 H (x.trans e)
  | ct s => exact fun σ G2 H e => h σ G2 H (x.trans e)
  | rt y s => exact fun v σ G2 H e => h v σ G2 H (x.trans e)
  | ex c p s => exact fun σ G2 H cls d e => h σ G2 H cls d (x.trans e)
  | bad => exact h
theorem PostS.toE {m : Out SV} {f : SV → S → O} (h : PostS W F G D (m.to f)) : PostE F G σ W (fun v H' => ∃ x s1 G', Ex G G' ∧ RS F G' H' σ s1 ∧ Res F G' H' σ s1 v x ∧ PostS W F G' D (f x s1)) m := by
  cases m with
  | ok x s1 => exact fun v G' H' e R r => ⟨x, s1, G', e, R, r, PostS.mono e h⟩
  | ex c p s1 => exact fun G' H' cls d e R k => h σ G' H' cls d e R k
  | bad => exact h
theorem PostS.toP {m : Out PV} {f : PV → S → O} (h : PostS W F G D (m.to f)) : PostP F G σ W (fun v H' => ∃ x s1 G', Ex G G' ∧ RS F G' H' σ s1 ∧ PVOk F G' σ v x ∧ PostS W F G' D (f x s1)) m := by
  cases m with
  | ok x s1 => exact fun v G' H' e R r => ⟨x, s1, G', e, R, r, PostS.mono e h⟩
  | ex c p s1 => exact fun G' H' cls d e R k => h σ G' H' cls d e R k
  | bad => exact h
theorem PostS.toT {m : Out Bool} {f : Bool → S → O} (h : PostS W F G D (m.to f)) : PostT F G σ W (fun b H' => ∃ s1 G', Ex G G' ∧ RS F G' H' σ s1 ∧ PostS W F G' D (f b s1)) m := by
  cases m with
  | ok x s1 => exact fun G' H' e R => ⟨s1, G', e, R, PostS.mono e h⟩
  | ex c p s1 => exact fun G' H' cls d e R k => h σ G' H' cls d e R k
  | bad => exact h
theorem PostE.imp {m : Out SV} (h : PostE F G σ W Q m) (i : ∀ v H, Q v H → Q' v H) : PostE F G σ W Q' m := by
  cases m with
  | ok x s1 => exact fun v G' H' e R r => i _ _ (h v G' H' e R r)
  | ex c p s1 => exact h
  | bad => exact h
theorem PostP.imp {m : Out PV} (h : PostP F G σ W Q m) (i : ∀ v H, Q v H → Q' v H) : PostP F G σ W Q' m := by
  cases m with
  | ok x s1 => exact fun v G' H' e R r => i _ _ (h v G' H' e R r)
  | ex c p s1 => exact h
  | bad => exact h
theorem PostT.imp {m : Out Bool} {Q Q' : Bool → Hp → Prop} (h : PostT F G σ W Q m) (i : ∀ v H, Q v H → Q' v H) : PostT F G σ W Q' m := by
  cases m with
  | ok x s1 => exact fun G' H' e R => i _ _ (h G' H' e R)
  | ex c p s1 => exact h
  | bad => exact h
theorem PostS.wipe {o : O} {w : List Nat} (h : PostS W F G D (o.wipe w)) : PostS W F G D o := by
  cases o with
  | nx s => exact fun σ G2 H e R => h σ G2 H e (R.wipe w)
  | _ => exact h
/-- a slot of which nothing is said -/
theorem RS.setN {s : S} {j : Nat} {v : Option V} (R : RS F G H σ s) (h : ∀ x, s.env[j]? ≠ some (some x)) : RS F G H (σ.set j v) s where
  len := by simp [R.len]
  bh := R.bh
  nd := R.nd
  lent := R.lent
  keep := R.keep
  bg := R.bg
  gh := R.gh
  fresh := R.fresh
  blen := R.blen
  bors := R.bors
  slots := fun i x e => by
    have hne : j ≠ i := fun z => h x (by rw [z]; exact e)
    rw [List.getElem?_set_ne hne]
    exact R.slots i x e
  inj := fun i l x y e1 e2 m1 m2 q => by
    have h1 : j ≠ i := fun z => h x (by rw [z]; exact e1)
    have h2 : j ≠ l := fun z => h y (by rw [z]; exact e2)
    rw [List.getElem?_set_ne h1, List.getElem?_set_ne h2] at q
    exact R.inj i l x y e1 e2 m1 m2 q
theorem fix_look {s s1 : S} {p q : PV} (h : s.fix p = some (q, s1)) : (∀ x, s1.look x = s.look x) ∧ s1.look q = s.look p := by
  cases p with
  | val d => cases h; exact ⟨fun _ => rfl, rfl⟩
  | br k => cases h; exact ⟨fun _ => rfl, rfl⟩
  | «at» i =>
    unfold S.fix at h
    split at h
    · rename_i h1; cases h1
    · rename_i h1; cases h1
    · rename_i j0 h1
      cases h1
      split at h
      · rename_i d e
        cases h
        exact ⟨fun _ => rfl, by show some d = (s.slot i).bind s.data; rw [e]; rfl⟩
      · rename_i d e
        cases h
        have he := slot_env e
        have hlt : i < s.env.length := (List.getElem?_eq_some_iff.mp he).1
        refine ⟨fun x => ?_, by show some d = (s.slot i).bind s.data; rw [e]; rfl⟩
        cases x with
        | val d' => rfl
        | br k => rfl
        | «at» l =>
          show ((s.put i (.shr d)).slot l).bind (s.put i (.shr d)).data = (s.slot l).bind s.data
          by_cases hj : i = l
          · subst hj
            have : (s.put i (.shr d)).slot i = some (.shr d) := by simp [S.slot, S.put, hlt]
            rw [this, e]; rfl
          · have : (s.put i (.shr d)).slot l = s.slot l := by simp [S.slot, S.put, List.getElem?_set_ne hj]
            rw [this]
            cases s.slot l with
            | none => rfl
            | some y => cases y <;> rfl
      · rename_i k e
        cases h
        exact ⟨fun _ => rfl, by show s.bs[k]? = (s.slot i).bind s.data; rw [e]; rfl⟩
      · cases h
theorem looks_eq {s s1 : S} (h : ∀ x, s1.look x = s.look x) : ∀ ps, s1.looks ps = s.looks ps
  | [] => rfl
  | p :: ps => by
    show (s1.look p).bind (fun d => (s1.looks ps).map fun ds => d :: ds) = (s.look p).bind fun d => (s.looks ps).map fun ds => d :: ds
    rw [h p, looks_eq h ps]
theorem fixes_looks : ∀ {ps qs : List PV} {s s1 : S} {ds : List Den.D}, s.fixes ps = some (qs, s1) → s1.looks qs = some ds → s.looks ps = some ds := by
  have aux : ∀ {ps qs : List PV} {s s1 : S}, s.fixes ps = some (qs, s1) → (∀ x, s1.look x = s.look x) ∧ s1.looks qs = s.looks ps := by
    intro ps
    induction ps with
    | nil => intro qs s s1 h; cases h; exact ⟨fun _ => rfl, rfl⟩
    | cons p ps ih =>
      intro qs s s1 h
      unfold S.fixes at h
      split at h
      · cases h
      · rename_i q s2 e1
        split at h
        · cases h
        · rename_i qs' s3 e2
          cases h
          obtain ⟨a1, a2⟩ := fix_look e1
          obtain ⟨b1, b2⟩ := ih e2
          refine ⟨fun x => (b1 x).trans (a1 x), ?_⟩
          show (s1.look q).bind (fun d => (s1.looks qs').map fun ds => d :: ds) = (s.look p).bind fun d => (s.looks ps).map fun ds => d :: ds
          rw [b1 q, a2, b2, looks_eq a1 ps]
  intro ps qs s s1 ds h e
  rw [← (aux h).2]; exact e
theorem wiped_env {s : S} {j : Nat} (x : SV) : (s.wipe [j]).env[j]? ≠ some (some x) := fun e => by
  have := slot_wiped (s := s) (own := [j]) j List.mem_cons_self
  unfold S.slot at this
  rw [e] at this
  cases this
end
section
variable {X : Cx} {Tb : Tab} {N : List Str} {sc : Scope} {n : Nat} {E : Env} {CA : Nat → Option Addr} {W : WX}
theorem sw_cell {e : Expr} {y : Str} {py : Pos} {l : Nat} {env : PySem.Env} (h : env.scope.names.lookup y = some .cell) : swapsWith e (some (.Name y py)) l env = pure false := by
  have ky : (env.kindOf y == some .local) = false := by
    have : env.kindOf y = some .cell := h
    rw [this]; rfl
  cases e <;> first | rfl | (unfold swapsWith; simp only [ky]; simp)
/-- name = .. -/
theorem set_den {i : Nat} {e : Den.X} {D : Ends} {σ : L2.St} {H : Hp} (h : denS X.K CA W (exC E (.set i e)) D σ H) : denE X.K CA W (evX E e) σ H fun x H1 => D.nx (σ.set i (some x)) H1 := by
  obtain ⟨F, G, s, hK, hC, R, P⟩ := h
  have P : PostS W F G D ((evX E e s).to fun v s1 => if i < s1.env.length then .nx (s1.put i v) else .bad) := P
  refine ⟨F, G, s, hK, hC, R, (P.toE (σ := σ)).imp fun v H1 ⟨x, s1, G1, x1, R1, r1, P1⟩ => ?_⟩
  split at P1
  · exact P1 _ G1 H1 (Evl.Ex.refl _) (R1.put r1)
  · exact P1.elim
theorem setf_den {i : Nat} {e : Den.X} {D : Ends} {σ : L2.St} {H : Hp} (h : denS X.K CA W (exC E (.setf i e)) D σ H) : denE X.K CA W (evX E e) σ H fun x H1 => D.nx (σ.set i (some x)) H1 := by
  obtain ⟨F, G, s, hK, hC, R, P⟩ := h
  have P : PostS W F G D ((evX E e s).to fun v s1 => match v.d with
    | some d => if i < s1.env.length then .nx (s1.put i (.shr d)) else .bad
    | none => .bad) := P
  refine ⟨F, G, s, hK, hC, R, (P.toE (σ := σ)).imp fun v H1 ⟨x, s1, G1, x1, R1, r1, P1⟩ => ?_⟩
  cases hd : x.d with
  | none => rw [hd] at P1; exact P1.elim
  | some d =>
    rw [hd] at P1
    have P1 : PostS W F G1 D (if i < s1.env.length then .nx (s1.put i (.shr d)) else .bad) := P1
    split at P1
    · obtain ⟨G2, x2, R2, r2⟩ := r1.freeze R1 hd
      exact P1 _ G2 H1 x2 (R2.put (Res.shr r2))
    · exact P1.elim
theorem s_set (C : CtxS X Tb N sc n E CA W) {i : Nat} {e : Den.X} {st : Stmt} (h : chkC Tb N sc (.set i e) st = true) : PS X st (denS X.K CA W (exC E (.set i e))) := by
  unfold chkC at h
  split at h
  · rename_i y py x sp
    obtain ⟨h, hx⟩ := and2 h
    obtain ⟨h1, h2⟩ := and2 h
    obtain ⟨l1, l2, l3⟩ := loc_of C.c.hN C.c.hsc (fun x => C.c.hfn x) h1
    have hN : X.N.Nodup := by rw [C.c.hN]; exact C.c.nd
    rw [Bool.or_eq_true, Bool.or_eq_true] at h2
    rcases h2 with (h2 | h2) | h2
    rotate_left
    rotate_left
    · exact (ps_set (i := i) hN l1 l2 (sX e C.c _ hx) (sw_cell (by rw [C.c.hsc]; exact of_decide_eq_true h2)) l3).imp fun D σ H h => set_den h
    · exact (ps_set (i := i) hN l1 l2 (sX e C.c _ hx) (sw_no h2 _ _ _) l3).imp fun D σ H h => set_den h
    · unfold chkSetC at h2
      split at h2
      · rename_i own tgx it t z elt tge ite ifs scope pos _
        obtain ⟨h2, h3⟩ := and2 h2
        obtain ⟨ha, hb⟩ := and2 h2
        have ha := of_decide_eq_true ha
        have hsw : swapsWith (.ListComp elt [⟨tge, ite, ifs, 0⟩] scope pos) (some (.Name y py)) sp.line X.env = pure true := sw_true (by rw [C.c.hsc]; exact C.kind) (by rw [C.c.hsc]; exact ha) hb (by simpa using h3)
        unfold chkX at hx
        split at hx
        · rename_i hq
          cases hq
          obtain ⟨h, hx⟩ := and2 hx
          obtain ⟨h, ht⟩ := and2 h
          obtain ⟨h, hin⟩ := and2 h
          obtain ⟨h, htg⟩ := and2 h
          obtain ⟨h, hit⟩ := and2 h
          obtain ⟨hb, pl⟩ := and2 h
          refine (ps_setLc (i := i) (own := own) C.c.calm hN l1 (by rw [C.c.hsc]; exact ha) hsw (sIt it C.c _ _ hit) (blkOk_by (by rw [C.c.hN, C.c.hsc]; exact hb)) (fun s H c cl fp => sTg (C.c.blk s H _ c cl fp) _ _ htg) (fun s H c cl fp => tru_ts ht) (fun s H c cl fp => sX z (C.c.blk s H _ c cl fp) _ hx) (folded_of pl _)).imp fun D σ H h => s_comp C.c (of_decide_eq_true hin) (set_den h)
        · rename_i hq
          cases hq
          obtain ⟨h, hx⟩ := and2 hx
          obtain ⟨h, ht⟩ := and2 h
          obtain ⟨h, hin⟩ := and2 h
          obtain ⟨h, htg⟩ := and2 h
          obtain ⟨h, hit⟩ := and2 h
          obtain ⟨hb, pl⟩ := and2 h
          refine (ps_setLc (i := i) (own := own) C.c.calm hN l1 (by rw [C.c.hsc]; exact ha) hsw (sIt it C.c _ _ hit) (blkOk_by (by rw [C.c.hN, C.c.hsc]; exact hb)) (fun s H c cl fp => sTg (C.c.blk s H _ c cl fp) _ _ htg) (fun s H c cl fp => pts_one (sT t (C.c.blk s H _ c cl fp) _ ht).1) (fun s H c cl fp => sX z (C.c.blk s H _ c cl fp) _ hx) (folded_of pl _)).imp fun D σ H h => s_comp C.c (of_decide_eq_true hin) (set_den h)
        · cases hx
      · cases h2
  · cases h
theorem s_setf (C : CtxS X Tb N sc n E CA W) {i : Nat} {e : Den.X} {st : Stmt} (h : chkC Tb N sc (.setf i e) st = true) : PS X st (denS X.K CA W (exC E (.setf i e))) := by
  unfold chkC at h
  split at h
  · rename_i y py x sp
    obtain ⟨h, hx⟩ := and2 h
    obtain ⟨h1, h2⟩ := and2 h
    obtain ⟨l1, l2, l3⟩ := loc_of C.c.hN C.c.hsc (fun x => C.c.hfn x) h1
    have hN : X.N.Nodup := by rw [C.c.hN]; exact C.c.nd
    rw [Bool.or_eq_true, Bool.or_eq_true] at h2
    rcases h2 with (h2 | h2) | h2
    rotate_left
    rotate_left
    · exact (ps_set (i := i) hN l1 l2 (sX e C.c _ hx) (sw_cell (by rw [C.c.hsc]; exact of_decide_eq_true h2)) l3).imp fun D σ H h => setf_den h
    · exact (ps_set (i := i) hN l1 l2 (sX e C.c _ hx) (sw_no h2 _ _ _) l3).imp fun D σ H h => setf_den h
    · unfold chkSetC at h2
      split at h2
      · rename_i own tgx it t z elt tge ite ifs scope pos _
        obtain ⟨h2, h3⟩ := and2 h2
        obtain ⟨ha, hb⟩ := and2 h2
        have ha := of_decide_eq_true ha
        have hsw : swapsWith (.ListComp elt [⟨tge, ite, ifs, 0⟩] scope pos) (some (.Name y py)) sp.line X.env = pure true := sw_true (by rw [C.c.hsc]; exact C.kind) (by rw [C.c.hsc]; exact ha) hb (by simpa using h3)
        unfold chkX at hx
        split at hx
        · rename_i hq
          cases hq
          obtain ⟨h, hx⟩ := and2 hx
          obtain ⟨h, ht⟩ := and2 h
          obtain ⟨h, hin⟩ := and2 h
          obtain ⟨h, htg⟩ := and2 h
          obtain ⟨h, hit⟩ := and2 h
          obtain ⟨hb, pl⟩ := and2 h
          refine (ps_setLc (i := i) (own := own) C.c.calm hN l1 (by rw [C.c.hsc]; exact ha) hsw (sIt it C.c _ _ hit) (blkOk_by (by rw [C.c.hN, C.c.hsc]; exact hb)) (fun s H c cl fp => sTg (C.c.blk s H _ c cl fp) _ _ htg) (fun s H c cl fp => tru_ts ht) (fun s H c cl fp => sX z (C.c.blk s H _ c cl fp) _ hx) (folded_of pl _)).imp fun D σ H h => s_comp C.c (of_decide_eq_true hin) (setf_den h)
        · rename_i hq
          cases hq
          obtain ⟨h, hx⟩ := and2 hx
          obtain ⟨h, ht⟩ := and2 h
          obtain ⟨h, hin⟩ := and2 h
          obtain ⟨h, htg⟩ := and2 h
          obtain ⟨h, hit⟩ := and2 h
          obtain ⟨hb, pl⟩ := and2 h
          refine (ps_setLc (i := i) (own := own) C.c.calm hN l1 (by rw [C.c.hsc]; exact ha) hsw (sIt it C.c _ _ hit) (blkOk_by (by rw [C.c.hN, C.c.hsc]; exact hb)) (fun s H c cl fp => sTg (C.c.blk s H _ c cl fp) _ _ htg) (fun s H c cl fp => pts_one (sT t (C.c.blk s H _ c cl fp) _ ht).1) (fun s H c cl fp => sX z (C.c.blk s H _ c cl fp) _ hx) (folded_of pl _)).imp fun D σ H h => s_comp C.c (of_decide_eq_true hin) (setf_den h)
        · cases hx
      · cases h2
  · cases h
theorem sole_no {e : Expr} (h : noComp e = true) (t : Expr) (l : Nat) (env : PySem.Env) : swapsWithSole [t] e l env = pure false := by
  unfold swapsWithSole
  exact sw_no h _ _ _
theorem swapped_no {es : List Expr} {k : Nat} {tp : Pos} {x : Expr} {env : PySem.Env} (h : (!isTup x) = true) : swappedStores [.Tuple es k tp] x env = pure none := by
  cases x <;> first | rfl | (exact Bool.noConfusion h)
theorem s_asg (C : CtxS X Tb N sc n E CA W) {t : Tg} {e : Den.X} {st : Stmt} (h : chkC Tb N sc (.asg t e) st = true) : PS X st (denS X.K CA W (exC E (.asg t e))) := by
  unfold chkC at h
  split at h
  · rename_i es k tp x sp
    obtain ⟨h, h4⟩ := and2 h
    obtain ⟨h, h3⟩ := and2 h
    obtain ⟨h1, h2⟩ := and2 h
    refine (ps_asg (sX e C.c _ h4) (sTg C.c t _ h3) (sole_no h2 _ _ _) (swapped_no h1)).imp fun D σ H ⟨F, G, s, hK, hC, R, P⟩ => ?_
    have P : PostS W F G D ((evX E e s).to fun v s1 => match v.d with
      | some d => match S.asg t d s1 with
        | some s2 => .nx s2
        | none => .bad
      | none => .bad) := P
    refine ⟨F, G, s, hK, hC, R, (P.toE (σ := σ)).imp fun v H1 ⟨x, s1, G1, x1, R1, r1, P1⟩ => ?_⟩
    cases hd : x.d with
    | none => rw [hd] at P1; exact P1.elim
    | some d =>
      rw [hd] at P1
      have P1 : PostS W F G1 D (match S.asg t d s1 with | some s2 => .nx s2 | none => .bad) := P1
      cases ha : S.asg t d s1 with
      | none => rw [ha] at P1; exact P1.elim
      | some s2 =>
        rw [ha] at P1
        obtain ⟨G2, x2, R2, r2⟩ := r1.freeze R1 hd
        exact ⟨F, G2, s1, d, s2, hK, hC, R2, r2, ha, fun σ' G' H' x' R' _ => P1 σ' G' H' (x2.trans x') R'⟩
  · cases h
theorem s_setix (C : CtxS X Tb N sc n E CA W) {i : Nat} {k e : Den.X} {st : Stmt} (h : chkC Tb N sc (.setix i k e) st = true) : PS X st (denS X.K CA W (exC E (.setix i k e))) := by
  unfold chkC at h
  split at h
  · rename_i x xp ix ip v sp
    obtain ⟨h, h5⟩ := and2 h
    obtain ⟨h, h4⟩ := and2 h
    obtain ⟨h, h3⟩ := and2 h
    obtain ⟨h1, h2⟩ := and2 h
    have hk := pe_p C.c h4 (sX k C.c _ h4)
    refine (ps_asg (sX e C.c _ h5) (pg_sub (s_name C.c h1) hk set_list (fun _ => by cases ix <;> first | rfl | (exact Bool.noConfusion h2))) (sole_no h3 _ _ _) (by cases v <;> rfl)).imp fun D σ H ⟨F, G, s, hK, hC, R, P⟩ => ?_
    have P : PostS W F G D ((evX E e s).to fun v s1 => match v.d with
      | some d => match s1.slot i with
        | some _ => (evP E k s1).to fun p s2 => match s2.look (.at i), s2.look p with
          | some (.lst xs), some (.int j) => match ixN xs.length j with
            | some n => match s2.store i (.lst (xs.set n d)) with
              | some s3 => .nx s3
              | none => .bad
            | none => .bad
          | _, _ => .bad
        | none => .bad
      | none => .bad) := P
    refine ⟨F, G, s, hK, hC, R, (P.toE (σ := σ)).imp fun v H1 ⟨x, s1, G1, x1, R1, r1, P1⟩ => ?_⟩
    cases hd : x.d with
    | none => rw [hd] at P1; exact P1.elim
    | some d =>
      rw [hd] at P1
      have P1 : PostS W F G1 D (match s1.slot i with
        | some _ => (evP E k s1).to fun p s2 => match s2.look (.at i), s2.look p with
          | some (.lst xs), some (.int j) => match ixN xs.length j with
            | some n => match s2.store i (.lst (xs.set n d)) with
              | some s3 => .nx s3
              | none => .bad
            | none => .bad
          | _, _ => .bad
        | none => .bad) := P1
      cases hs : s1.slot i with
      | none => rw [hs] at P1; exact P1.elim
      | some y =>
        rw [hs] at P1
        obtain ⟨w, hw, _⟩ := R1.slots i y (slot_env hs)
        obtain ⟨G2, x2, R2, r2⟩ := r1.freeze R1 hd
        have P1 : PostS W F G2 D ((evP E k s1).to fun p s2 => match s2.look (.at i), s2.look p with
          | some (.lst xs), some (.int j) => match ixN xs.length j with
            | some n => match s2.store i (.lst (xs.set n d)) with
              | some s3 => .nx s3
              | none => .bad
            | none => .bad
          | _, _ => .bad) := PostS.mono x2 P1
        refine ⟨w, hw, F, G2, s1, hK, hC, R2, (P1.toP (σ := σ)).imp fun u H2 ⟨p, s2, G3, x3, R3, pv, P3⟩ => ?_⟩
        split at P3
        · rename_i xs j h1 h2
          split at P3
          · rename_i m hm
            split at P3
            · rename_i s3 h3
              obtain ⟨q, vs, hv, hq, rq⟩ := (R3.look (show PVOk F G3 σ w (.at i) from hw) h1).lst R3.gh
              have hu := (R3.look pv h2).int
              obtain ⟨q', e1, n', st⟩ := R3.store h3
              rw [hw] at e1
              cases e1
              cases hv
              refine ⟨q, vs, j, m, rfl, hu, hq, by rw [rq.length]; exact hm, ?_⟩
              exact P3 σ G3 _ (Evl.Ex.refl _) (st _ (.lst upd_same (rq.set (r2.mono x3) m)))
            · exact P3.elim
          · exact P3.elim
        · exact P3.elim
  · cases h
/-! ### loops -/
theorem s_for (C : CtxS X Tb N sc n E CA W) {tg : Tg} {it : It} {b : List Den.C} {w : List Nat} {tge ite : Expr} {b' : List Stmt} {pos : Pos} (pl : plain ite = true) (hit : chkIt Tb N sc it ite tge = true) (htg : chkTg N sc (fun _ => true) tg tge = true)
    (hb : PSs X b' (denS X.K CA W (exCs E b))) : PS X (.For tge ite b' [] pos) (denS X.K CA W (exC E (.for tg it b w))) := by
  refine (ps_for C.po C.c.calm (sIt it C.c _ _ hit) (sTg C.c tg _ htg) hb (folded_of pl _)).imp fun D σ H ⟨F, G, s, hK, hC, R, P⟩ => ⟨F, G, s, hK, hC, R, ?_⟩
  have P : PostS W F G D ((evIt E it s).to fun ps0 s0 => match s0.fixes ps0 with
    | none => .bad
    | some (ps, s1) => match s1.looks ps with
      | none => .bad
      | some ds => match itSem it ds with
        | none => .bad
        | some items => forRun (fun s d => match S.asg tg d s with
        | none => .bad
        | some s' => exCs E b s') (fun s => decide (s.looks ps = some ds)) w items s1) := P
  cases hm : evIt E it s with
  | ex c p s1 => rw [hm] at P; exact fun G' H' cls d x R k => P σ G' H' cls d x R k
  | bad => rw [hm] at P; exact P
  | ok ps0 s0 =>
    rw [hm] at P
    intro vs G1 H1 x1 R1 pvs0
    have P : PostS W F G D (match s0.fixes ps0 with
      | none => .bad
      | some (ps, s1) => match s1.looks ps with
        | none => .bad
        | some ds => match itSem it ds with
          | none => .bad
          | some items => forRun (fun s d => match S.asg tg d s with
          | none => .bad
          | some s' => exCs E b s') (fun s => decide (s.looks ps = some ds)) w items s1) := P
    cases hf : s0.fixes ps0 with
    | none => rw [hf] at P; exact P.elim
    | some r =>
      obtain ⟨ps, s1⟩ := r
      rw [hf] at P
      obtain ⟨G2, x2, R2, pvs, na⟩ := R1.fixes pvs0 hf
      have P : PostS W F G D (match s1.looks ps with
        | none => .bad
        | some ds => match itSem it ds with
          | none => .bad
          | some items => forRun (fun s d => match S.asg tg d s with
          | none => .bad
          | some s' => exCs E b s') (fun s => decide (s.looks ps = some ds)) w items s1) := P
      cases hl : s1.looks ps with
      | none => rw [hl] at P; exact P.elim
      | some ds =>
        rw [hl] at P
        have P : PostS W F G D (match itSem it ds with
          | none => .bad
          | some items => forRun (fun s d => match S.asg tg d s with
          | none => .bad
          | some s' => exCs E b s') (fun s => decide (s.looks ps = some ds)) w items s1) := P
        cases hi : itSem it ds with
        | none => rw [hi] at P; exact P.elim
        | some items =>
          rw [hi] at P
          have P : PostS W F G2 D (forRun (fun s d => match S.asg tg d s with
            | none => .bad
            | some s' => exCs E b s') (fun s => decide (s.looks ps = some ds)) w items s1) := PostS.mono (x1.trans x2) P
          refine ⟨ds, items, fixes_looks hf hl, hi, fun J hJ => ?_⟩
          refine ⟨fun i m σ' H' => m = items.length - i ∧ i ≤ items.length ∧ ∃ G' s', Ex G2 G' ∧ RS F G' H' σ' s' ∧ PostS W F G' D (forRun (fun s d => match S.asg tg d s with
            | none => .bad
            | some s' => exCs E b s') (fun s => decide (s.looks ps = some ds)) w (items.drop i) s'), ⟨items.length, rfl, Nat.zero_le _, G2, s1, Evl.Ex.refl _, R2, P⟩, ?_⟩
          rintro i m σ' H' ⟨rfl, hi', G', s', xg, R', P'⟩
          have pv' : PVs F G' σ' vs ps := PVs.free na (pvs.mono xg)
          by_cases hlt : i < items.length
          · have hdrop : items.drop i = items[i] :: items.drop (i + 1) := List.drop_eq_getElem_cons hlt
            rw [hdrop] at P'
            unfold forRun at P'
            by_cases hok : s'.looks ps = some ds
            · rw [if_pos (decide_eq_true hok)] at P'
              have wk := (hJ ps F rfl σ' G' H' s' i R' pv' hok).2 items[i] (List.getElem?_eq_getElem hlt)
              refine .inr ⟨wk.1, fun σ2 H2 => i + 1 ≤ items.length ∧ ∃ G' s', Ex G2 G' ∧ RS F G' H2 σ2 s' ∧ PostS W F G' D (forRun (fun s d => match S.asg tg d s with
                | none => .bad
                | some s' => exCs E b s') (fun s => decide (s.looks ps = some ds)) w (items.drop (i + 1)) s'), fun σ2 H2 h2 => ⟨items.length - (i + 1), by omega, rfl, h2.1, h2.2⟩, fun y H2 hy => ?_⟩
              obtain ⟨G3, x3, R3, r3⟩ := wk.2 y H2 hy
              cases ha : S.asg tg items[i] (s'.wipe w) with
              | none => simp only [ha] at P'; exact P'.elim
              | some s2 =>
                simp only [ha] at P'
                refine ⟨F, G3, s'.wipe w, items[i], s2, hK, hC, R3.wipe w, r3, ha, fun σ3 G4 H3 x4 R4 _ => ⟨F, G4, s2, hK, hC, R4, ?_⟩⟩
                have P' := PostS.mono (x3.trans x4) P'
                cases hb2 : exCs E b s2 with
                | nx s3 => rw [hb2] at P'; exact fun σ5 G5 H5 x5 R5 => ⟨hlt, G5, s3, ((xg.trans x3).trans x4).trans x5, R5, PostS.mono x5 P'⟩
                | ct s3 => rw [hb2] at P'; exact fun σ5 G5 H5 x5 R5 => ⟨hlt, G5, s3, ((xg.trans x3).trans x4).trans x5, R5, PostS.mono x5 P'⟩
                | bk s3 => rw [hb2] at P'; exact fun σ5 G5 H5 x5 R5 => P' σ5 G5 H5 x5 (R5.wipe w)
                | rt v s3 => rw [hb2] at P'; exact P'
                | ex c p s3 => rw [hb2] at P'; exact P'
                | bad => rw [hb2] at P'; exact P'
            · rw [if_neg (by rw [decide_eq_false hok]; exact Bool.false_ne_true)] at P'
              exact P'.elim
          · have hge : items.length ≤ i := Nat.le_of_not_lt hlt
            have hdrop : items.drop i = [] := List.drop_eq_nil_of_le hge
            rw [hdrop] at P'
            unfold forRun at P'
            by_cases hok : s'.looks ps = some ds
            · rw [if_pos (decide_eq_true hok)] at P'
              exact .inl ⟨(hJ ps F rfl σ' G' H' s' i R' pv' hok).1 hge, P' σ' G' H' (Evl.Ex.refl _) (R'.wipe w)⟩
            · rw [if_neg (by rw [decide_eq_false hok]; exact Bool.false_ne_true)] at P'
              exact P'.elim
theorem s_while (C : CtxS X Tb N sc n E CA W) {t : T} {b : List Den.C} {w : List Nat} {c : Expr} {b' : List Stmt} {pos : Pos} (hc : chkT Tb N sc t c = true)
    (hb : PSs X b' (denS X.K CA W (exCs E b))) : PS X (.While c b' [] pos) (denS X.K CA W (exC E (.while t b w))) := by
  refine (ps_while C.po (sT t C.c _ hc).1 hb).imp fun D σ H ⟨F, G, s, hK, hC, R, P⟩ => ?_
  have P : PostS W F G D (whileRun (evT E t) (exCs E b) w E.wf s) := P
  refine ⟨fun m σ' H' => ∃ G' s', RS F G' H' σ' s' ∧ PostS W F G' D (whileRun (evT E t) (exCs E b) w m s'), ⟨_, G, s, R, P⟩, ?_⟩
  rintro m σ' H' ⟨G', s', R', P'⟩
  cases m with
  | zero => exact P'.elim
  | succ m =>
    have P' : PostS W F G' D ((evT E t (s'.wipe w)).to fun b1 s1 => if b1 = true then loopNext (whileRun (evT E t) (exCs E b) w m) w (exCs E b s1) else .nx (s1.wipe w)) := P'
    refine ⟨F, G', s'.wipe w, hK, hC, R'.wipe w, (P'.toT (σ := σ')).imp fun bb H2 ⟨s1, G2, x2, R2, P2⟩ => ?_⟩
    cases bb with
    | false => rw [if_neg Bool.false_ne_true] at P2 ⊢; exact P2 σ' G2 H2 (Evl.Ex.refl _) (R2.wipe w)
    | true =>
      rw [if_pos rfl] at P2 ⊢
      refine ⟨fun σ3 H3 => ∃ G' s', RS F G' H3 σ3 s' ∧ PostS W F G' D (whileRun (evT E t) (exCs E b) w m s'), fun σ3 H3 h3 => ⟨m, Nat.lt_succ_self m, h3⟩, F, G2, s1, hK, hC, R2, ?_⟩
      cases hb2 : exCs E b s1 with
      | nx s3 => rw [hb2] at P2; exact fun σ5 G5 H5 x5 R5 => ⟨G5, s3, R5, PostS.mono x5 P2⟩
      | ct s3 => rw [hb2] at P2; exact fun σ5 G5 H5 x5 R5 => ⟨G5, s3, R5, PostS.mono x5 P2⟩
      | bk s3 => rw [hb2] at P2; exact fun σ5 G5 H5 x5 R5 => P2 σ5 G5 H5 x5 (R5.wipe w)
      | rt v s3 => rw [hb2] at P2; exact P2
      | ex c p s3 => rw [hb2] at P2; exact P2
      | bad => rw [hb2] at P2; exact P2
end
end Den
set_option Elab.async false
set_option linter.all false
set_option maxRecDepth 100000
set_option autoImplicit false
set_option maxHeartbeats 4000000
namespace Den
open PySem PySem.Spec PyProof.Rows L2
section
variable {X : Cx} {Tb : Tab} {N : List Str} {sc : Scope} {n : Nat} {E : Env} {CA : Nat → Option Addr} {W : WX}
theorem s_raise (C : CtxS X Tb N sc n E CA W) {c : Nat} {x m : Str} {j : Nat} {p p2 pos pos' : Pos} (hg : glB sc x = true) (hx : Tb.exs[c]? = some x) : PS X (.Raise (some (.Call (.Name x p) [.Constant (.str m) j p2] [] pos)) none pos') (denS X.K CA W (exC E (.raise c))) := by
  obtain ⟨g, o⟩ := C.c.gl hg
  obtain ⟨A, hA, ec⟩ := C.ex.cls c x hx
  refine (ps_raise C.c.calm C.c.tk (pmk_own PySem.F.excBase_ValueError ec.ex ec.g ec.kp (raises_own ec.sb ec.ty) g (okName_dbg o).1)).imp fun D σ H ⟨F, G, s, hK, hC, R, P⟩ => ?_
  exact P σ G H _ none (Evl.Ex.refl _) R (.non (by rw [hC]; exact hA) rfl)
theorem PostH.of {a : Addr} {cls : Value} {d : Option Addr} {ei : Option Nat} {c : Nat} {p : List (Str × D)} {F : Fr} {G : Hp} {D : Ends} {o : O} {w : List Nat}
    (h : PostS W F G D ((o.wipeA ei.toList).wipe w)) : PostH a cls d ei c p F G { nx := fun σ H => D.nx (match ei with | some i => σ.set i none | none => σ) H, rt := D.rt, bk := fun σ H => D.bk (match ei with | some i => σ.set i none | none => σ) H, ct := fun σ H => D.ct (match ei with | some i => σ.set i none | none => σ) H } o := by
  have aux : ∀ {σ : L2.St} {G' H : Hp} {s : S}, RS F G' H σ s → RS F G' H (match ei with | some i => σ.set i none | none => σ) (s.wipe ei.toList) := fun {σ G' H s} R => by
    cases ei with
    | none => exact R
    | some i => exact (R.wipe [i]).setN fun x => wiped_env x
  have h := h.wipe
  cases o with
  | nx s => exact fun σ G' H x ho => h _ G' H x (aux ho.R)
  | bk s => exact fun σ G' H x ho => h _ G' H x (aux ho.R)
  | ct s => exact fun σ G' H x ho => h _ G' H x (aux ho.R)
  | rt y s => exact fun v σ G' H x R r => h v σ G' H x R r
  | ex _ _ _ => trivial
  | bad => exact h
theorem CtxS.tr (C : CtxS X Tb N sc n E CA W) (W' : WX) (pn : List (Addr × Obj)) (xe : Value → Shared → Prop) (tk : Takes (X.tr pn xe) W') (po : PassesOwn (model X.prog X.w) X.A X.env xe) : CtxS (X.tr pn xe) Tb N sc n E CA W' where
  c := { hN := C.c.hN, nd := C.c.nd, hsc := C.c.hsc, calm := C.c.calm, tk := tk, room := C.c.room, hfn := C.c.hfn, tab := C.c.tab }
  kind := C.kind
  hs := C.hs
  hf := C.hf
  po := po
  ex := C.ex
/-- the body of a try: what its exceptions wish -/
theorem try_body {b : List Den.C} {c : Nat} {i : Option Nat} {h : List HC} {w : List Nat} {D : Ends} {F : Fr} {G : Hp} {s : S} {W' : WX}
    (P : PostS W F G D ((match exCs E b s with
    | .ex c' p s1 => match E.sub c' c with
      | some true => if (i.toList.all fun j => decide (j < s1.env.length)) = true then (exHs E.sub c' p h (s1.wipe i.toList)).wipeA i.toList else .bad
      | some false => .ex c' p s1
      | none => .bad
    | o => o).wipe w))
    (hW : ∀ c' p s1 G' H' σ cls d, Ex G G' → RS F G' H' σ s1 → ExcOk F G' H' c' p cls d → PostS W F G' D ((match E.sub c' c with
      | some true => if (i.toList.all fun j => decide (j < s1.env.length)) = true then (exHs E.sub c' p h (s1.wipe i.toList)).wipeA i.toList else .bad
      | some false => .ex c' p s1
      | none => .bad : O).wipe w) → W' cls d σ H') : PostS W' F G D (exCs E b s) := by
  cases hb : exCs E b s with
  | nx s1 => rw [hb] at P; exact P.wipe
  | rt v s1 => rw [hb] at P; exact P
  | bk s1 => rw [hb] at P; exact P
  | ct s1 => rw [hb] at P; exact P
  | ex c' p s1 => rw [hb] at P; exact fun σ G' H' cls d x R k => hW c' p s1 G' H' σ cls d x R k (PostS.mono x P)
  | bad => rw [hb] at P; exact P
theorem exc_cls {F : Fr} {G H : Hp} {c : Nat} {p : List (Str × D)} {cls : Value} {d : Option Addr} (h : ExcOk F G H c p cls d) : ∃ C, F.CA c = some C ∧ cls = .ref C := by
  cases h with
  | non a _ => exact ⟨_, a, rfl⟩
  | dict a _ _ _ _ => exact ⟨_, a, rfl⟩
theorem s_try0 (C : CtxS X Tb N sc n E CA W) {b : List Den.C} {c : Nat} {h : List HC} {w : List Nat} {b' : List Stmt} {x : Str} {np hp pos : Pos} {h0 : Stmt} {hs : List Stmt} (hg : glB sc x = true) (hx : Tb.exs[c]? = some x)
    (hb : ∀ {Y : Cx} {W' : WX}, CtxS Y Tb N sc n E CA W' → Y.K = X.K → PSs Y b' (denS Y.K CA W' (exCs E b))) (hh : chkHs Tb N none sc h (h0 :: hs) = true) :
    PS X (.Try b' [.ExceptHandler (some (.Name x np)) none (h0 :: hs) hp] [] [] pos) (denS X.K CA W (exC E (.try1 b c none h w))) := by
  obtain ⟨g, o⟩ := C.c.gl hg
  obtain ⟨A, hA, ec⟩ := C.ex.cls c x hx
  refine (ps_try_only (c := .ref A) (tb := fun W' => denS X.K CA W' (exCs E b)) (ts := fun a cls d => denH X.K CA a cls d none fun c p => exHs E.sub c p h) C.hs C.hf ⟨g, (okName_dbg o).1, .inl ec.g⟩ C.c.tk (fun W' pn xe tk po => hb (C.tr W' pn xe tk po) rfl)
    (fun a oe cls d pn hz hf => s_hs (N := N) (sc := sc) (Tb := Tb) { hN := C.c.hN, nd := C.c.nd, hsc := C.c.hsc, hfn := C.c.hfn, bi := C.c.tab.bi, ex := C.ex, hz := hz, hf := hf } h _ hh)).imp fun D σ H ⟨F, G, s, hK, hC, R, P⟩ => ⟨F, G, s, hK, hC, R, ?_⟩
  refine try_body P fun c' p s1 G' H' σ' cls d x1 R1 k P1 => ?_
  obtain ⟨C1, e1, rfl⟩ := exc_cls k
  cases hq : E.sub c' c with
  | none => rw [hq] at P1; exact P1.elim
  | some r =>
    rw [hq] at P1
    refine ⟨r, (C.ex.kit c' c r C1 A hq (by rw [← hC]; exact e1) hA).1, fun hr a ha => ?_, fun hr => ?_⟩
    · subst hr
      have P1 : PostS W F G' D (((exHs E.sub c' p h s1).wipeA []).wipe w) := P1
      exact ⟨F, G', s1, c', p, hK, hC, ⟨R1, k, fun i hi => by cases hi⟩, PostH.of (ei := none) P1⟩
    · subst hr
      exact P1 σ' G' H' _ d (Evl.Ex.refl _) R1 k
theorem s_try1 (C : CtxS X Tb N sc n E CA W) {b : List Den.C} {c i : Nat} {h : List HC} {w : List Nat} {b' : List Stmt} {x nm : Str} {np hp pos : Pos} {h0 : Stmt} {hs : List Stmt} (hg : glB sc x = true) (hx : Tb.exs[c]? = some x) (hi : N[i]? = some nm) (hl : sc.names.lookup nm = some .local)
    (hb : ∀ {Y : Cx} {W' : WX}, CtxS Y Tb N sc n E CA W' → Y.K = X.K → PSs Y b' (denS Y.K CA W' (exCs E b))) (hh : chkHs Tb N (some i) sc h (h0 :: hs) = true) :
    PS X (.Try b' [.ExceptHandler (some (.Name x np)) (some nm) (h0 :: hs) hp] [] [] pos) (denS X.K CA W (exC E (.try1 b c (some i) h w))) := by
  obtain ⟨g, o⟩ := C.c.gl hg
  obtain ⟨A, hA, ec⟩ := C.ex.cls c x hx
  have hN : X.N.Nodup := by rw [C.c.hN]; exact C.c.nd
  refine (ps_try_as (c := .ref A) (i := i) (tb := fun W' => denS X.K CA W' (exCs E b)) (ts := fun a cls d => denH X.K CA a cls d (some i) fun c p => exHs E.sub c p h) C.hs C.hf hN (by rw [C.c.hN]; exact hi) (by show X.env.scope.names.lookup nm = some .local; rw [C.c.hsc]; exact hl) ⟨g, (okName_dbg o).1, .inl ec.g⟩ C.c.tk (fun W' pn xe tk po => hb (C.tr W' pn xe tk po) rfl)
    (fun a oe cls d pn hz hf => s_hs (N := N) (sc := sc) (Tb := Tb) { hN := C.c.hN, nd := C.c.nd, hsc := C.c.hsc, hfn := C.c.hfn, bi := C.c.tab.bi, ex := C.ex, hz := hz, hf := hf } h _ hh)).imp fun D σ H ⟨F, G, s, hK, hC, R, P⟩ => ⟨F, G, s, hK, hC, R, ?_⟩
  refine try_body P fun c' p s1 G' H' σ' cls d x1 R1 k P1 => ?_
  obtain ⟨C1, e1, rfl⟩ := exc_cls k
  cases hq : E.sub c' c with
  | none => rw [hq] at P1; exact P1.elim
  | some r =>
    rw [hq] at P1
    refine ⟨r, (C.ex.kit c' c r C1 A hq (by rw [← hC]; exact e1) hA).1, fun hr a ha => ?_, fun hr => ?_⟩
    · subst hr
      have P1 : PostS W F G' D ((if ([i].all fun j => decide (j < s1.env.length)) = true then (exHs E.sub c' p h (s1.wipe [i])).wipeA [i] else .bad).wipe w) := P1
      split at P1
      · rename_i hlt
        have hlt : i < s1.env.length := by simpa using hlt
        refine ⟨F, G', s1.wipe [i], c', p, hK, hC, ⟨(R1.wipe [i]).setN fun x => wiped_env x, k, fun j hj => ?_⟩, PostH.of (ei := some i) P1⟩
        cases hj
        exact ⟨List.getElem?_set_self (by rw [← R1.len]; exact hlt), slot_wiped i List.mem_cons_self⟩
      · exact P1.elim
    · subst hr
      exact P1 σ' G' H' _ d (Evl.Ex.refl _) R1 k
end
mutual
theorem sC : ∀ (c : Den.C) {X : Cx} {Tb : Tab} {N : List Str} {sc : Scope} {n : Nat} {E : Env} {CA : Nat → Option Addr} {W : WX} (C : CtxS X Tb N sc n E CA W) (st : Stmt), chkC Tb N sc c st = true → PS X st (denS X.K CA W (exC E c))
  | .pass, X, Tb, N, sc, n, E, CA, W, C, st, h => by
    unfold chkC at h
    split at h
    · exact ps_pass.imp fun D σ H ⟨F, G, s, hK, hC, R, P⟩ => P σ G H (Evl.Ex.refl _) R
    · cases h
  | .brk, X, Tb, N, sc, n, E, CA, W, C, st, h => by
    unfold chkC at h
    split at h
    · exact ps_break.imp fun D σ H ⟨F, G, s, hK, hC, R, P⟩ => P σ G H (Evl.Ex.refl _) R
    · cases h
  | .cont, X, Tb, N, sc, n, E, CA, W, C, st, h => by
    unfold chkC at h
    split at h
    · exact ps_continue.imp fun D σ H ⟨F, G, s, hK, hC, R, P⟩ => P σ G H (Evl.Ex.refl _) R
    · cases h
  | .expr e, X, Tb, N, sc, n, E, CA, W, C, st, h => by
    unfold chkC at h
    split at h
    · obtain ⟨h1, h2⟩ := and2 h
      refine (ps_expr (sX e C.c _ h2) (sw_no h1 _ _ _)).imp fun D σ H ⟨F, G, s, hK, hC, R, P⟩ => ?_
      have P : PostS W F G D ((evX E e s).to fun _ s1 => .nx s1) := P
      exact ⟨F, G, s, hK, hC, R, (P.toE (σ := σ)).imp fun v H1 ⟨x, s1, G1, x1, R1, r1, P1⟩ => P1 σ G1 H1 (Evl.Ex.refl _) R1⟩
    · cases h
  | .set i e, X, Tb, N, sc, n, E, CA, W, C, st, h => s_set C h
  | .setf i e, X, Tb, N, sc, n, E, CA, W, C, st, h => s_setf C h
  | .asg t e, X, Tb, N, sc, n, E, CA, W, C, st, h => s_asg C h
  | .retn, X, Tb, N, sc, n, E, CA, W, C, st, h => by
    unfold chkC at h
    split at h
    · exact ps_retN.imp fun D σ H ⟨F, G, s, hK, hC, R, P⟩ => P _ σ G H (Evl.Ex.refl _) R (Res.shr .non)
    · cases h
  | .ret e, X, Tb, N, sc, n, E, CA, W, C, st, h => by
    unfold chkC at h
    split at h
    · refine (ps_ret (sX e C.c _ h)).imp fun D σ H ⟨F, G, s, hK, hC, R, P⟩ => ?_
      have P : PostS W F G D ((evX E e s).to fun v s1 => .rt v s1) := P
      exact ⟨F, G, s, hK, hC, R, (P.toE (σ := σ)).imp fun v H1 ⟨x, s1, G1, x1, R1, r1, P1⟩ => P1 v σ G1 H1 (Evl.Ex.refl _) R1 r1⟩
    · cases h
  | .retv i, X, Tb, N, sc, n, E, CA, W, C, st, h => by
    unfold chkC at h
    split at h
    · refine (ps_ret (s_name C.c h)).imp fun D σ H ⟨F, G, s, hK, hC, R, P⟩ => ?_
      have P : PostS W F G D (match s.slot i with
        | some (.own d) => .rt (.own d) (s.wipe [i])
        | some (.shr d) => .rt (.shr d) s
        | _ => .bad) := P
      split at P
      · rename_i d hs
        have he := slot_env hs
        obtain ⟨v, e1, sl⟩ := R.slots i _ he
        refine ⟨v, e1, P v σ G H (Evl.Ex.refl _) (R.wipe [i]) ⟨sl, fun _ => (by intro z; cases z), fun _ j y e2 m q => ?_⟩⟩
        obtain ⟨a1, a2⟩ := foldl_none e2
        exact a2 (by
          have := R.inj j i y _ a1 he m rfl (by rw [q, e1])
          rw [this]; exact List.mem_cons_self)
      · rename_i d hs
        obtain ⟨v, e1, sl⟩ := R.slots i _ (slot_env hs)
        exact ⟨v, e1, P v σ G H (Evl.Ex.refl _) R (Res.shr sl)⟩
      · exact P.elim
    · cases h
  | .setix i k e, X, Tb, N, sc, n, E, CA, W, C, st, h => s_setix C h
  | .iff t p q w, X, Tb, N, sc, n, E, CA, W, C, st, h => by
    unfold chkC at h
    split at h
    · obtain ⟨h, h3⟩ := and2 h
      obtain ⟨h1, h2⟩ := and2 h
      refine (ps_if (sT t C.c _ h1).1 (sCs p C _ h2) (sCs q C _ h3)).imp fun D σ H ⟨F, G, s, hK, hC, R, P⟩ => ?_
      have P : PostS W F G D ((evT E t s).to fun c s1 => (if c = true then exCs E p s1 else exCs E q s1).wipe w) := P
      refine ⟨F, G, s, hK, hC, R, (P.toT (σ := σ)).imp fun b H1 ⟨s1, G1, x1, R1, P1⟩ => ?_⟩
      have P1 := P1.wipe
      cases b with
      | true => rw [if_pos rfl] at P1 ⊢; exact ⟨F, G1, s1, hK, hC, R1, P1⟩
      | false => rw [if_neg Bool.false_ne_true] at P1 ⊢; exact ⟨F, G1, s1, hK, hC, R1, P1⟩
    · cases h
  | .for tg it b w, X, Tb, N, sc, n, E, CA, W, C, st, h => by
    unfold chkC at h
    split at h
    · obtain ⟨h, h4⟩ := and2 h
      obtain ⟨h, h3⟩ := and2 h
      obtain ⟨h1, h2⟩ := and2 h
      exact s_for C h1 h2 h3 (sCs b C _ h4)
    · cases h
  | .while t b w, X, Tb, N, sc, n, E, CA, W, C, st, h => by
    unfold chkC at h
    split at h
    · obtain ⟨h1, h2⟩ := and2 h
      exact s_while C h1 (sCs b C _ h2)
    · cases h
  | .raise c, X, Tb, N, sc, n, E, CA, W, C, st, h => by
    unfold chkC at h
    split at h
    · obtain ⟨h1, h2⟩ := and2 h
      exact s_raise C h1 (of_decide_eq_true h2)
    · cases h
  | .try1 b c i hh w, X, Tb, N, sc, n, E, CA, W, C, st, h => by
    unfold chkC at h
    split at h
    · obtain ⟨h, h4⟩ := and2 h
      obtain ⟨h, h3⟩ := and2 h
      obtain ⟨h1, h2⟩ := and2 h
      exact s_try0 C h1 (of_decide_eq_true h2) (fun {Y W'} CY hY => sCs b CY _ h3) h4
    · obtain ⟨h, h6⟩ := and2 h
      obtain ⟨h, h5⟩ := and2 h
      obtain ⟨h, h4⟩ := and2 h
      obtain ⟨h, h3⟩ := and2 h
      obtain ⟨h1, h2⟩ := and2 h
      exact s_try1 C h1 (of_decide_eq_true h2) (of_decide_eq_true h3) (of_decide_eq_true h4) (fun {Y W'} CY hY => sCs b CY _ h5) h6
    · cases h
theorem sCs : ∀ (cs : List Den.C) {X : Cx} {Tb : Tab} {N : List Str} {sc : Scope} {n : Nat} {E : Env} {CA : Nat → Option Addr} {W : WX} (C : CtxS X Tb N sc n E CA W) (sts : List Stmt), chkCs Tb N sc cs sts = true → PSs X sts (denS X.K CA W (exCs E cs))
  | [], X, Tb, N, sc, n, E, CA, W, C, sts, h => by
    unfold chkCs at h
    split at h
    · exact pss_nil.imp fun D σ H ⟨F, G, s, hK, hC, R, P⟩ => P σ G H (Evl.Ex.refl _) R
    · cases h
  | c :: cs, X, Tb, N, sc, n, E, CA, W, C, sts, h => by
    unfold chkCs at h
    split at h
    · obtain ⟨h1, h2⟩ := and2 h
      refine (pss_cons (sC c C _ h1) (sCs cs C _ h2)).imp fun D σ H ⟨F, G, s, hK, hC, R, P⟩ => ⟨F, G, s, hK, hC, R, ?_⟩
      have P : PostS W F G D ((exC E c s).bind fun s1 => exCs E cs s1) := P
      show PostS W F G _ (exC E c s)
      cases hx : exC E c s with
      | nx s1 => rw [hx] at P; exact fun σ1 G1 H1 x1 R1 => ⟨F, G1, s1, hK, hC, R1, PostS.mono x1 P⟩
      | rt y s1 => rw [hx] at P; exact P
      | bk s1 => rw [hx] at P; exact P
      | ct s1 => rw [hx] at P; exact P
      | ex _ _ _ => rw [hx] at P; exact P
      | bad => rw [hx] at P; exact P
    · cases h
end
end Den
set_option Elab.async false
set_option linter.all false
set_option maxRecDepth 100000
set_option autoImplicit false
set_option maxHeartbeats 4000000
namespace Den
open PySem PySem.Spec PyProof.Rows L2
/-! ### defs -/
section
variable {K : PySem.W.Frag} {CA : Nat → Option Addr} {B H : Hp}
theorem args_len : ∀ {vs : List V} {as : List Arg} {rs : List Addr}, ArgsOk K CA B H vs as rs → vs.length = as.length ∧ (initBs as).length = rs.length
  | [], [], [], _ => ⟨rfl, rfl⟩
  | v :: vs, .val d :: as, rs, h => ⟨by simp [(args_len h.2).1], (args_len h.2).2⟩
  | v :: vs, .bor d :: as, r :: rs, h => ⟨by simp [(args_len h.2).1], by simp [initBs, (args_len h.2).2]⟩
  | [], [], _ :: _, h => h.elim
  | [], _ :: _, _, h => by cases h
  | _ :: _, [], _, h => by cases h
  | _ :: _, .bor _ :: _, [], h => by cases h
theorem args_lent : ∀ {vs : List V} {as : List Arg} {rs : List Addr}, ArgsOk K CA B H vs as rs → ∀ p ∈ rs, ∃ o, H p = some o
  | [], [], [], _ => fun p hp => by cases hp
  | v :: vs, .val d :: as, rs, h => args_lent h.2
  | v :: vs, .bor d :: as, r :: rs, h => fun p hp => by
    rcases List.mem_cons.mp hp with rfl | hp
    · exact h.1.2.1.there
    · exact args_lent h.2 p hp
  | [], [], _ :: _, h => h.elim
  | [], _ :: _, _, h => by cases h
  | _ :: _, [], _, h => by cases h
  | _ :: _, .bor _ :: _, [], h => by cases h
theorem args_bors : ∀ {vs : List V} {as : List Arg} {rs : List Addr}, ArgsOk K CA B H vs as rs → ∀ (k : Nat) (p : Addr) (d : D), rs[k]? = some p → (initBs as)[k]? = some d → One K CA B H p d ∧ B p = none
  | [], [], [], _ => fun k p d e => by simp at e
  | v :: vs, .val d :: as, rs, h => fun k p d' e1 e2 => args_bors h.2 k p d' e1 e2
  | v :: vs, .bor d :: as, r :: rs, h => fun k p d' e1 e2 => by
    cases k with
    | zero => cases e1; cases e2; exact h.1.2
    | succ k => exact args_bors h.2 k p d' e1 e2
  | [], [], _ :: _, h => h.elim
  | [], _ :: _, _, h => by cases h
  | _ :: _, [], _, h => by cases h
  | _ :: _, .bor _ :: _, [], h => by cases h
theorem args_env : ∀ {vs : List V} {as : List Arg} {rs : List Addr} (k : Nat), ArgsOk K CA B H vs as rs → ∀ (i : Nat) (x : SV), (initEnv as k)[i]? = some (some x) →
    ∃ v, vs[i]? = some v ∧ ((∃ d, x = .shr d ∧ Rep K CA B v d) ∨ ∃ j p, x = .bor (k + j) ∧ rs[j]? = some p ∧ v = .ref p)
  | [], [], [], k, _ => fun i x e => by simp [initEnv] at e
  | v :: vs, .val d :: as, rs, k, h => fun i x e => by
    cases i with
    | zero => cases e; exact ⟨v, rfl, .inl ⟨d, rfl, h.1⟩⟩
    | succ i => exact args_env k h.2 i x e
  | v :: vs, .bor d :: as, r :: rs, k, h => fun i x e => by
    cases i with
    | zero => cases e; exact ⟨v, rfl, .inr ⟨0, r, rfl, rfl, h.1.1⟩⟩
    | succ i =>
      obtain ⟨w, e1, q⟩ := args_env (k + 1) h.2 i x e
      refine ⟨w, e1, q.imp id fun ⟨j, p, a, b, c⟩ => ⟨j + 1, p, by rw [a]; congr 1; omega, b, c⟩⟩
  | [], [], _ :: _, _, h => h.elim
  | [], _ :: _, _, _, h => by cases h
  | _ :: _, [], _, _, h => by cases h
  | _ :: _, .bor _ :: _, [], _, h => by cases h
theorem env_ge : ∀ {as : List Arg} {k i j : Nat}, (initEnv as k)[i]? = some (some (.bor j)) → k ≤ j
  | [], k, i, j, e => by simp [initEnv] at e
  | .val d :: as, k, i, j, e => by
    cases i with
    | zero => cases e
    | succ i => exact env_ge (as := as) (i := i) e
  | .bor d :: as, k, i, j, e => by
    cases i with
    | zero => cases e; exact Nat.le_refl _
    | succ i => have := env_ge (as := as) (k := k + 1) (i := i) e; omega
theorem env_inj : ∀ {as : List Arg} {k i i' j : Nat}, (initEnv as k)[i]? = some (some (.bor j)) → (initEnv as k)[i']? = some (some (.bor j)) → i = i'
  | [], k, i, i', j, e, _ => by simp [initEnv] at e
  | .val d :: as, k, i, i', j, e, e' => by
    cases i with
    | zero => cases e
    | succ i => cases i' with
      | zero => cases e'
      | succ i' => rw [env_inj (as := as) (i := i) (i' := i') e e']
  | .bor d :: as, k, i, i', j, e, e' => by
    cases i with
    | zero =>
      cases e
      cases i' with
      | zero => rfl
      | succ i' => have := env_ge (as := as) (k := k + 1) (i := i') e'; omega
    | succ i => cases i' with
      | zero => cases e'; have := env_ge (as := as) (k := k + 1) (i := i) e; omega
      | succ i' => rw [env_inj (as := as) (i := i) (i' := i') e e']
theorem initEnv_len : ∀ {as : List Arg} {k : Nat}, (initEnv as k).length = as.length
  | [], _ => rfl
  | .val d :: as, k => by simp [initEnv, initEnv_len (as := as) (k := k)]
  | .bor d :: as, k => by simp [initEnv, initEnv_len (as := as) (k := k + 1)]
theorem rs_start {I : FI} {vs : List V} {as : List Arg} {rs : List Addr} (bh : Ex B H) (nd : rs.Nodup) (h : ArgsOk K CA B H vs as rs) : RS ⟨K, CA, H, B, rs⟩ B H (L2.start I.N vs) (I.init as) := by
  obtain ⟨l1, l2⟩ := args_len h
  have get : ∀ (i : Nat) (x : SV), (I.init as).env[i]? = some (some x) → (initEnv as 0)[i]? = some (some x) := fun i x e => by
    have e : (initEnv as 0 ++ List.replicate (I.N.length - as.length) none)[i]? = some (some x) := e
    by_cases hi : i < (initEnv as 0).length
    · rw [List.getElem?_append_left hi] at e; exact e
    · rw [List.getElem?_append_right (by omega), List.getElem?_replicate] at e
      split at e <;> cases e
  have getσ : ∀ (i : Nat) (v : V), vs[i]? = some v → (L2.start I.N vs)[i]? = some (some v) := fun i v e => by
    unfold L2.start
    have hi : i < vs.length := (List.getElem?_eq_some_iff.mp e).1
    rw [List.getElem?_append_left (by simpa using hi), List.getElem?_map, e]; rfl
  refine ⟨?_, bh, nd, args_lent h, fun a o _ e => e, Evl.Ex.refl _, bh, fun a e => .inl e, l2, args_bors h, fun i x e => ?_, fun i j x y e1 e2 m1 m2 q => ?_⟩
  · show (initEnv as 0 ++ List.replicate (I.N.length - as.length) none).length = (L2.start I.N vs).length
    unfold L2.start
    rw [List.length_append, List.length_append, initEnv_len, List.length_replicate, List.length_map, List.length_replicate, l1]
  · obtain ⟨v, e1, q⟩ := args_env 0 h i x (get i x e)
    refine ⟨v, getσ i v e1, ?_⟩
    rcases q with ⟨d, rfl, r⟩ | ⟨j, p, rfl, hp, rfl⟩
    · exact r
    · exact ⟨p, by rw [Nat.zero_add]; exact hp, rfl⟩
  · have g1 := get i x e1
    have g2 := get j y e2
    obtain ⟨v, a1, b1⟩ := args_env 0 h i x g1
    obtain ⟨w, a2, b2⟩ := args_env 0 h j y g2
    rw [getσ i v a1, getσ j w a2] at q
    cases q
    rcases b1 with ⟨d, rfl, _⟩ | ⟨k1, p1, rfl, hp1, rfl⟩
    · cases m1
    rcases b2 with ⟨d, rfl, _⟩ | ⟨k2, p2, rfl, hp2, hv⟩
    · cases m2
    cases hv
    have : k1 = k2 := (List.getElem?_inj (List.getElem?_eq_some_iff.mp hp1).1 nd).mp (hp1.trans hp2.symm)
    subst this
    exact env_inj g1 g2
end
/-- a def of the text and the program's def -/
structure FnT (K : PySem.W.Frag) (mg : Str → Option Value) (Tb : Tab) (I : FI) (st : Stmt) : Prop where
  fn : My.Fn K mg I.name st I.ps
  sc : FnScope I.N I.ps (defScope st)
  ml : I.ms.length = I.ps.length
  ck : chkCs Tb I.N (defScope st) I.body (defBody st) = true
def Prog.env (P : Prog) (n : Nat) : Env := ⟨P.call n, P.sub, P.wf⟩
theorem args_m {K : PySem.W.Frag} {CA : Nat → Option Addr} {B H : Hp} {rs : List Addr} {Q : VK} {E : XK} {En : Env} {I : FI} {as : List Arg} (h : EndF K CA B H rs Q E (runF En I as)) : as.map Arg.m = I.ms ∧ EndF K CA B H rs Q E (exCs En I.body (I.init as)).fn := by
  unfold runF at h
  split at h
  · rename_i q; exact ⟨q, h⟩
  · exact h.elim
section
variable {P : Program} {w : World} {K : PySem.W.Frag} {mg : Str → Option Value} {base : Heap} {Tb : Tab} {Pr : Prog} {CA : Nat → Option Addr}
theorem fn_body {n : Nat} {I : FI} {st : Stmt} (T : FnT K mg Tb I st) (ex : ExcTab K mg Tb Pr.sub CA) (ih : TabOk P w K mg base Tb n (Pr.env n) CA) :
    My.FOk P w K mg base (L2.CX P w) I.name I.ps (2 * (n + 1)) (spF K CA fun as => runF (Pr.env n) I as) := by
  refine T.fn.okX (k := 2 * n + 1) T.sc (fun vs H Q E ⟨B, as, rs, _, _, ao, en⟩ => ?_) fun f cdv A outer s H vs Q E hr ⟨B, as, rs, bh, nd, ao, en⟩ => ?_
  · have hm := (args_m en).1
    have := congrArg List.length hm
    rw [List.length_map, T.ml] at this
    rw [(args_len ao).1, this]
  · obtain ⟨hm, en⟩ := args_m en
    refine ⟨denS K CA (fun cls d _ H => E cls d H) (exCs (Pr.env n) I.body), sCs I.body (X := cxOf (L2.CX P w) P w K mg base I.N I.name (defScope st) f cdv A outer s H E) (n := n) (sc := defScope st) (Tb := Tb) (N := I.N)
      { c := { hN := rfl, nd := T.sc.nd, hsc := rfl, calm := rfl, tk := takes_of rfl rfl rfl rfl, room := hr.mono (by omega), hfn := fun _ => rfl, tab := ih }, kind := T.sc.kind, hs := rfl, hf := rfl, po := passes_of rfl, ex := ex } _ T.ck, ?_⟩
    refine ⟨⟨K, CA, H, B, rs⟩, B, I.init as, rfl, rfl, rs_start bh nd ao, ?_⟩
    have aft : ∀ {σ : L2.St} {G' H' : Hp} {s1 : S}, RS ⟨K, CA, H, B, rs⟩ G' H' σ s1 → After K CA B H rs G' H' s1.bs := fun R => ⟨R.bg, R.gh, R.keep, R.fresh, R.blen, R.bors⟩
    cases hx : exCs (Pr.env n) I.body (I.init as) with
    | nx s1 => rw [hx] at en; exact fun σ G' H' x R => en _ G' H' (aft R) (.non)
    | rt v s1 =>
      rw [hx] at en
      cases v with
      | shr d => exact fun v σ G' H' x R r => en v G' H' (aft R) r.1
      | own d => exact fun v σ G' H' x R r => en v G' H' (aft R) r.1
      | bor k => exact en.elim
    | bk s1 => rw [hx] at en; exact en.elim
    | ct s1 => rw [hx] at en; exact en.elim
    | ex c p s1 =>
      rw [hx] at en
      exact fun σ G' H' cls d x R k => en cls d G' H' (aft R) (by
        cases k with
        | non a b => exact .non a b
        | dict a b c d e => exact .dict a b c d e)
    | bad => rw [hx] at en; exact en.elim
/-- the whole text -/
theorem prog_ok (hf : ∀ (f : Nat) (I : FI), Tb.fs[f]? = some I → ∃ st, FnT K mg Tb I st) (hp : Pr.fs = Tb.fs) (ex : ExcTab K mg Tb Pr.sub CA) (bi : ∀ x, Tb.bi.contains x = true → mg x = none) (cs : ∀ x d, Tb.cs.lookup x = some d → ∃ v u, mg x = some u ∧ RelV v u ∧ d.v = some v) :
    ∀ n, TabOk P w K mg base Tb n (Pr.env n) CA
  | 0 => ⟨fun f I h => by
      obtain ⟨st, T⟩ := hf f I h
      obtain ⟨f2, fd2, g2, F2, b2⟩ := T.fn.ex
      exact ⟨f2, fd2, g2, F2.kp, F2.at', b2, ⟨fun _ _ _ _ ⟨_, _, _, _, _, _, z⟩ => z.elim, fun _ _ _ _ _ _ _ _ _ _ _ _ _ ⟨_, _, _, _, _, _, z⟩ => z.elim⟩⟩, bi, cs⟩
  | n + 1 => ⟨fun f I h => by
      obtain ⟨st, T⟩ := hf f I h
      have e : (fun as => Pr.call (n + 1) f as) = fun as => runF (Pr.env n) I as := by
        funext as
        show (match Pr.fs[f]? with | some I => runF ⟨Pr.call n, Pr.sub, Pr.wf⟩ I as | none => .bad) = _
        rw [hp, h]
        rfl
      have := fn_body T ex (prog_ok hf hp ex bi cs n)
      rw [← e] at this
      exact this, bi, cs⟩
end
end Den
set_option Elab.async false
set_option linter.all false
set_option maxRecDepth 100000
set_option autoImplicit false
set_option maxHeartbeats 4000000
namespace Den
open PySem PySem.Spec PyProof.Rows L2
/-! ### what the top has written -/
structure DefAt (K : PySem.W.Frag) (x : Str) (st : Stmt) : Prop where
  ex : ∃ (f : Addr) (oc : Value) (od an : Option Addr) (osl : Array (Option Value)) (kV doc pm cdv ct : Value),
    PySem.W.nsIn K mainGlobals x = some (some (.ref f)) ∧ K.lookup f = some ⟨oc, od, .func (PySem.W.fnOf x x (defArgs st) (defBody st) (defScope st) .none kV doc pm an cdv ct), osl⟩ ∧ PySem.W.codeIn K cdv x = true ∧ PySem.W.keepIn K (.ref f) = true
section
variable {K : PySem.W.Frag} {mg : Str → Option Value} {h : Heap}
theorem defAt {x : Str} {st : Stmt} {f : Addr} {oc : Value} {od an : Option Addr} {osl : Array (Option Value)} {kV doc pm cdv ct : Value} (a : PySem.W.nsIn K mainGlobals x = some (some (.ref f)))
    (l : K.lookup f = some ⟨oc, od, .func (PySem.W.fnOf x x (defArgs st) (defBody st) (defScope st) .none kV doc pm an cdv ct), osl⟩) (c : PySem.W.codeIn K cdv x = true) (k : PySem.W.keepIn K (.ref f) = true) : DefAt K x st :=
  ⟨f, oc, od, an, osl, kV, doc, pm, cdv, ct, a, l, c, k⟩
/-- the parameters take the arguments in order -/
def BindP (x : Str) (st : Stmt) (ps : List Str) : Prop := ∀ (kV doc pm : Value) (an : Option Addr) (cdv ct : Value) (us : List Value), us.length = ps.length → bindArgs (PySem.W.fnOf x x (defArgs st) (defBody st) (defScope st) .none kV doc pm an cdv ct) ⟨us, []⟩ = pure (ps.zip us)
theorem DefAt.fn (X : K.In h) (G : h.Ns mainGlobals mg) {x : Str} {st : Stmt} {ps : List Str} (D : DefAt K x st) (b : BindP x st ps) : My.Fn K mg x st ps := by
  obtain ⟨f, oc, od, an, osl, kV, doc, pm, cdv, ct, a, l, c, k⟩ := D.ex
  exact My.fn_at X G a l c k b
/-- an own error class -/
structure ExcAt (K : PySem.W.Frag) (x : Str) (C : Addr) : Prop where
  a : PySem.W.nsIn K mainGlobals x = some (some (.ref C))
  ex : PySem.W.excIn K C [.type "ValueError", .type "Exception", .type "BaseException", .type "object"] "ValueError.__new__" = true
  kp : PySem.W.keepIn K (.ref C) = true
  sb : PySem.W.subIn K (.ref C) (.type "BaseException") = some true
  ty : PySem.W.typeIn K (.ref C) = some (.type "type")
  ic : PySem.W.isClsIn K C = true
  ec : ExcC K C
  ve : PySem.W.subIn K (.ref C) (.type "ValueError") = some true
  self : PySem.W.subIn K (.ref C) (.ref C) = some true
theorem exm_of' {C D : Addr} {b : Bool} (h1 : PySem.W.subIn K (.ref D) (.type "BaseException") = some true) (h2 : PySem.W.isClsIn K D = true) (h3 : PySem.W.typeIn K (.ref D) = some (.type "type")) (h4 : PySem.W.subIn K (.ref C) (.ref D) = some b) :
    PySem.W.exmOne K (.ref C) (.ref D) = some b := by
  have e1 : (PySem.W.subIn K (.ref D) (.type "BaseException") == some true) = true := by rw [h1] <;> rfl
  have e2 : ((PySem.W.clsIn K D).isSome && PySem.W.typeIn K (.ref D) == some (.type "type")) = true := by
    have h2' : (PySem.W.clsIn K D).isSome = true := h2
    rw [h2', h3] <;> rfl
  show (if (PySem.W.subIn K (.ref D) (.type "BaseException") == some true) = true then (if ((PySem.W.clsIn K D).isSome && PySem.W.typeIn K (.ref D) == some (.type "type")) = true then PySem.W.subIn K (.ref C) (.ref D) else none) else none) = some b
  rw [if_pos e1, if_pos e2]
  exact h4
theorem kit_gen {C D : Addr} {b : Bool} (h2 : PySem.W.isClsIn K D = true) (h3 : PySem.W.typeIn K (.ref D) = some (.type "type")) (h4 : PySem.W.subIn K (.ref C) (.ref D) = some b) (h5 : PySem.W.subIn K (.ref C) (.ref C) = some true) :
    PySem.W.kitOne K (.ref C) (.ref D) = some b := by
  unfold PySem.W.kitOne
  cases e : (Value.ref C == Value.ref D) with
  | true =>
    have e' : Value.ref C = Value.ref D := by simpa using e
    rw [← e', h5] at h4
    rw [if_pos rfl]; exact h4
  | false =>
    have e2 : ((PySem.W.clsIn K D).isSome && PySem.W.typeIn K (.ref D) == some (.type "type")) = true := by
      have h2' : (PySem.W.clsIn K D).isSome = true := h2
      rw [h2', h3] <;> rfl
    rw [if_neg Bool.false_ne_true]
    show (if ((PySem.W.clsIn K D).isSome && PySem.W.typeIn K (.ref D) == some (.type "type")) = true then PySem.W.subIn K (.ref C) (.ref D) else none) = some b
    rw [if_pos e2]
    exact h4
theorem kit_ve {C : Addr} (h4 : PySem.W.subIn K (.ref C) (.type "ValueError") = some true) : PySem.W.kitOne K (.ref C) (.type "ValueError") = some true := by
  unfold PySem.W.kitOne
  rw [if_neg (by intro z; cases z)]
  show (if PySem.W.kitMeta "ValueError" = true then PySem.W.subIn K (.ref C) (.type "ValueError") else none) = some true
  rw [if_pos (by decide +kernel)]
  exact h4
theorem ExcAt.cls (X : K.In h) (G : h.Ns mainGlobals mg) {x : Str} {C : Addr} (E : ExcAt K x C) : ExcClass K mg x C := ⟨PySem.W.mg_of X G E.a, E.ex, E.kp, E.sb, E.ty, E.ec, kit_ve E.ve⟩
/-- all of a list -/
inductive AllP {α : Type} (p : Nat → α → Prop) : Nat → List α → Prop
  | nil {k : Nat} : AllP p k []
  | cons {k : Nat} {x : α} {xs : List α} : p k x → AllP p (k + 1) xs → AllP p k (x :: xs)
theorem AllP.get {α : Type} {p : Nat → α → Prop} : ∀ {k : Nat} {l : List α}, AllP p k l → ∀ {i : Nat} {x : α}, l[i]? = some x → p (k + i) x
  | _, _, .nil, i, x, e => by simp at e
  | k, _, .cons h t, 0, x, e => by cases e; exact h
  | k, _, .cons h t, i + 1, x, e => by
    have := AllP.get t (i := i) (x := x) (by simpa using e)
    rw [show k + 1 + i = k + (i + 1) by omega] at this
    exact this
/-- the exception classes stand at these places -/
theorem excTab {Tb : Tab} {sub : Nat → Nat → Option Bool} {Cs : List Addr} (X : K.In h) (G : h.Ns mainGlobals mg) (hl : Cs.length = Tb.exs.length) (hc : AllP (fun i x => ∀ C, Cs[i]? = some C → ExcAt K x C) 0 Tb.exs)
    (hs : ∀ c c' b, sub c c' = some b → ∃ C C', Cs[c]? = some C ∧ Cs[c']? = some C' ∧ PySem.W.subIn K (.ref C) (.ref C') = some b) : ExcTab K mg Tb sub (fun c => Cs[c]?) where
  cls := fun c x e => by
    have hlt : c < Cs.length := by rw [hl]; exact (List.getElem?_eq_some_iff.mp e).1
    have := hc.get e Cs[c] (by rw [Nat.zero_add]; exact List.getElem?_eq_getElem hlt)
    exact ⟨Cs[c], List.getElem?_eq_getElem hlt, this.cls X G⟩
  kit := fun c c' b C C' e h1 h2 => by
    obtain ⟨D, D', q1, q2, q3⟩ := hs c c' b e
    rw [h1] at q1
    rw [h2] at q2
    cases q1
    cases q2
    have lt1 : c < Tb.exs.length := by rw [← hl]; exact (List.getElem?_eq_some_iff.mp h1).1
    have lt2 : c' < Tb.exs.length := by rw [← hl]; exact (List.getElem?_eq_some_iff.mp h2).1
    have a1 := hc.get (List.getElem?_eq_getElem lt1) C (by rw [Nat.zero_add]; exact h1)
    have a2 := hc.get (List.getElem?_eq_getElem lt2) C' (by rw [Nat.zero_add]; exact h2)
    exact ⟨exm_of' a2.sb a2.ic a2.ty q3, kit_gen a2.ic a2.ty q3 a1.self⟩
  lt := fun c c' b e => by
    obtain ⟨D, D', q1, q2, q3⟩ := hs c c' b e
    exact ⟨by rw [← hl]; exact (List.getElem?_eq_some_iff.mp q1).1, by rw [← hl]; exact (List.getElem?_eq_some_iff.mp q2).1⟩
/-! ### the end -/
def spLaw (K : PySem.W.Frag) : Sp := fun vs H Q _ => ∃ (a : Addr) (ns : List Int), vs = [.ref a] ∧ SqL K H a (ns.map V.int) ∧ ns.length ≤ 63 ∧ (∀ z ∈ ns, Builtin.Int.intBits z ≤ 1048576) ∧ ∀ H', Q (.bl true) H'
theorem law_fn {l : PySem.W.OpenLaw} {w : World} {fa : Addr} {Tb : Tab} {Pr : Prog} {CA : Nat → Option Addr} {f n : Nat} {I : FI} (X : K.In h) (G : h.Ns mainGlobals mg) (hfa : mg "law" = some (.ref fa))
    (hf : AllP (fun _ I => ∃ st, FnT K mg Tb I st) 0 Tb.fs) (hp : Pr.fs = Tb.fs) (ex : ExcTab K mg Tb Pr.sub CA) (bi : ∀ x ∈ Tb.bi, PySem.W.nsIn K mainGlobals x = some none) (cs : ∀ x d, Tb.cs.lookup x = some d → ∃ v u, mg x = some u ∧ RelV v u ∧ d.v = some v)
    (hI : Tb.fs[f]? = some I) (hn : I.name = "law") (hps : I.ps = [("_law_script" : Str)])
    (true_ : ∀ ns : List Int, ns.length ≤ 63 → (∀ z ∈ ns, Builtin.Int.intBits z ≤ 1048576) → Pr.call n f [.val (.frl (ns.map .int))] = .ret (.shr (.bl true)) []) (hsp : ∀ fd : FuncData, (∃ oc od osl, K.lookup fa = some ⟨oc, od, .func fd, osl⟩) → ∀ (s : Shared) (v : Value), BindsTo s fd ⟨[v], []⟩ [("_law_script", v)]) :
    ∃ fd : FuncData, (∀ (s : Shared) (v : Value), BindsTo s fd ⟨[v], []⟩ [("_law_script", v)]) ∧ ∀ base : Heap, K.In base → base.Ns mainGlobals mg → FnOk l.prog w K mg base (L2.CX l.prog w) (2 * n) fa fd ["_law_script"] (spLaw K) := by
  have bi' : ∀ x, Tb.bi.contains x = true → mg x = none := fun x hx => PySem.W.mg_none_of X G (bi x (List.contains_iff_mem.mp hx))
  have all : ∀ base, TabOk l.prog w K mg base Tb n (Pr.env n) CA := fun base => prog_ok (fun f I e => by have := hf.get e; exact this) hp ex bi' cs n
  have key : ∀ base, ∃ (f' : Addr) (fd : FuncData), mg "law" = some (.ref f') ∧ (∃ oc od osl, K.lookup f' = some ⟨oc, od, .func fd, osl⟩) ∧ FnOk l.prog w K mg base (L2.CX l.prog w) (2 * n) f' fd ["_law_script"] (spLaw K) := fun base => by
    obtain ⟨f', fd, a, b, c, d, F⟩ := (all base).fns f I hI
    rw [hps] at F
    rw [hn] at a
    refine ⟨f', fd, a, c, F.imp fun vs H Q E ⟨ad, ns, e1, e2, e3, e4, q⟩ => ?_⟩
    subst e1
    have rints : ∀ ns : List Int, Reps K CA H (ns.map V.int) (ns.map D.int) := fun ns => by
      induction ns with
      | nil => exact .nil
      | cons n ns ih => exact .cons (.int n) ih
    refine ⟨H, [.val (.frl (ns.map .int))], [], Evl.Ex.refl H, List.nodup_nil, ⟨.frl e2 (rints ns), trivial⟩, ?_⟩
    show EndF K CA H H [] Q E (Pr.call n f _)
    rw [true_ ns e3 e4]
    exact fun x G' H' _ r => by cases r; exact q H'
  obtain ⟨f', fd, a, c, F⟩ := key default
  rw [hfa] at a
  cases a
  refine ⟨fd, hsp fd c, fun base _ _ => ?_⟩
  obtain ⟨f2, fd2, a2, c2, F2⟩ := key base
  rw [hfa] at a2
  cases a2
  obtain ⟨oc, od, osl, lk⟩ := c
  obtain ⟨oc2, od2, osl2, lk2⟩ := c2
  rw [lk] at lk2
  cases lk2
  exact F2
theorem cx_false {P : Program} (w : World) (H : Hp) (s : Shared) (e : Value) (s' : Shared) (h : L2.CX P w [] H s (fun _ _ _ => False) e s') : False := by
  obtain ⟨_, _, _, _, _, _, _, _, _, _, _, _, z⟩ := h
  exact z
end
end Den
set_option Elab.async false
set_option linter.all false
set_option maxRecDepth 100000
set_option autoImplicit true
namespace Den
open PySem L2
/-! ### the run, continuations by name -/
def pvK : Out SV → Out PV
  | .ok v s1 => match v.d with
    | some d => .ok (.val d) s1
    | none => .bad
  | .ex c p s => .ex c p s
  | .bad => .bad
def varP (i : Nat) (s : S) : Out PV := match s.slot i with
  | some _ => .ok (.at i) s
  | none => .bad
def evPp (E : Env) (x : X) (s : S) : Out PV := pvOf x (evX E x s) s
def opK (o : Op) : Out (List PV) → Out SV
  | .ok ps s1 => .opt s1 ((s1.looks ps).bind (opSem o))
  | .ex c p s => .ex c p s
  | .bad => .bad
def lstK : Out (List D) → Out SV
  | .ok ds s1 => if ds.length ≤ lim then .ok (.own (.lst ds)) s1 else .bad
  | .ex c p s => .ex c p s
  | .bad => .bad
def tupK : Out (List D) → Out SV
  | .ok ds s1 => if ds.length ≤ lim then .ok (.shr (.tup ds)) s1 else .bad
  | .ex c p s => .ex c p s
  | .bad => .bad
def cmp2D (E : Env) (p : Op) (y : PV) (s : S) : Out PV → Out SV
  | .ok z s3 => .opt s3 ((s3.looks [y, z]).bind (opSem p))
  | .ex c p s => .ex c p s
  | .bad => .bad
def cmp2C (E : Env) (p : Op) (c : X) (y : PV) (s : S) : Option SV → Out SV
  | some (.shr (.bl true)) => cmp2D E p y s (evPp E c s)
  | some (.shr (.bl false)) => .ok (.shr (.bl false)) s
  | _ => .bad
def cmp2B (E : Env) (o p : Op) (c : X) (x : PV) : Out PV → Out SV
  | .ok y s2 => cmp2C E p c y s2 ((s2.looks [x, y]).bind (opSem o))
  | .ex c p s => .ex c p s
  | .bad => .bad
def cmp2A (E : Env) (o p : Op) (b c : X) : Out PV → Out SV
  | .ok x s1 => cmp2B E o p c x (evPp E b s1)
  | .ex c p s => .ex c p s
  | .bad => .bad
def andK (E : Env) (b : X) : Out SV → Out SV
  | .ok (.shr (.bl c)) s1 => if c = true then evX E b s1 else .ok (.shr (.bl false)) s1
  | .ex c p s => .ex c p s
  | _ => .bad
def orK (E : Env) (b : X) : Out SV → Out SV
  | .ok (.shr (.bl c)) s1 => if c = true then .ok (.shr (.bl true)) s1 else evX E b s1
  | .ex c p s => .ex c p s
  | _ => .bad
def notK : Out SV → Out SV
  | .ok (.shr (.bl b)) s1 => .ok (.shr (.bl (!b))) s1
  | .ex c p s => .ex c p s
  | _ => .bad
def iteK (E : Env) (a b : X) : Out Bool → Out SV
  | .ok c s1 => if c = true then evX E a s1 else evX E b s1
  | .ex c p s => .ex c p s
  | .bad => .bad
def sl3C (i : Int) (p : PV) : Out PV → Out SV
  | .ok r s3 => match s3.look p, s3.look r with
      | some d, some (.int j) => .opt s3 (slS (some i) (some j) d)
      | _, _ => .bad
  | .ex c p s => .ex c p s
  | .bad => .bad
def sl3B (E : Env) (c : X) (p : PV) : Out PV → Out SV
  | .ok q s2 => match s2.look q with
    | some (.int i) => sl3C i p (evPp E c s2)
    | _ => .bad
  | .ex c p s => .ex c p s
  | .bad => .bad
def sl3A (E : Env) (b c : X) : Out PV → Out SV
  | .ok p s1 => sl3B E c p (evPp E b s1)
  | .ex c p s => .ex c p s
  | .bad => .bad
def bmB (m : BM) (p : PV) : Out (List PV) → Out SV
  | .ok ps s2 => match s2.look p, s2.looks ps with
        | some d, some ds => .opt s2 (bmSem m d ds)
        | _, _ => .bad
  | .ex c p s => .ex c p s
  | .bad => .bad
def bmA (E : Env) (m : BM) (xs : XS) : Out PV → Out SV
  | .ok p s1 => match s1.look p with
    | some d => if bmTy m d = true then bmB m p (evPs E xs s1) else .bad
    | none => .bad
  | .ex c p s => .ex c p s
  | .bad => .bad
def callK (E : Env) (f : Nat) (ms : List Bool) : Out (List PV) → Out SV
  | .ok ps s1 => callRun E f ms ps s1
  | .ex c p s => .ex c p s
  | .bad => .bad
def mutB (i : Nat) (s1 : S) : Option (D × D) → Out SV
  | some (d, r) => match s1.store i d with
        | some s2 => .ok (.shr r) s2
        | none => .bad
  | none => .bad
def mutA (m : Mu) (i : Nat) : Out (List D) → Out SV
  | .ok ds s1 => mutB i s1 ((s1.look (.at i)).bind fun d => muSem m d ds)
  | .ex c p s => .ex c p s
  | .bad => .bad
def compE (w : List Nat) : Out SV → Out (Option D)
  | .ok v s3 => match v.d with
              | some d => .ok (some d) (s3.wipe w)
              | none => .bad
  | .ex c p s => .ex c p s
  | .bad => .bad
def compT (E : Env) (e : X) (w : List Nat) : Out Bool → Out (Option D)
  | .ok c s2 => if c = true then compE w (evX E e s2) else .ok none (s2.wipe w)
  | .ex c p s => .ex c p s
  | .bad => .bad
def compG (E : Env) (t : T) (e : X) (w : List Nat) : Option S → Out (Option D)
  | none => .bad
  | some s' => compT E e w (evT E t s')
def compStep (E : Env) (w : List Nat) (tg : Tg) (t : T) (e : X) (s : S) (d : D) : Out (Option D) := compG E t e w (S.asg tg d s)
def looksB (ps : List PV) (ds : List D) (s : S) : Bool := decide (s.looks ps = some ds)
def compZ (s1 : S) (w : List Nat) : Out (List D) → Out SV
  | .ok acc s2 => .ok (.own (.lst acc)) (s1.restore s2 w)
  | .ex c p s => .ex c p s
  | .bad => .bad
def compI (E : Env) (w : List Nat) (tg : Tg) (t : T) (e : X) (ps : List PV) (ds : List D) (s1 : S) : Option (List D) → Out SV
  | none => .bad
  | some items => compZ s1 w (compRun (compStep E w tg t e) (looksB ps ds) items [] (s1.wipe w))
def compL (E : Env) (w : List Nat) (tg : Tg) (it : It) (t : T) (e : X) (ps : List PV) (s1 : S) : Option (List D) → Out SV
  | none => .bad
  | some ds => compI E w tg t e ps ds s1 (itSem it ds)
def compA (E : Env) (w : List Nat) (tg : Tg) (it : It) (t : T) (e : X) : Out (List PV) → Out SV
  | .ok ps s1 => compL E w tg it t e ps s1 (s1.looks ps)
  | .ex c p s => .ex c p s
  | .bad => .bad
def psB (p : PV) : Out (List PV) → Out (List PV)
  | .ok ps s2 => .ok (p :: ps) s2
  | .ex c p s => .ex c p s
  | .bad => .bad
def psA (E : Env) (xs : XS) : Out PV → Out (List PV)
  | .ok p s1 => psB p (evPs E xs s1)
  | .ex c p s => .ex c p s
  | .bad => .bad
def msB (d : D) : Out (List D) → Out (List D)
  | .ok ds s2 => .ok (d :: ds) s2
  | .ex c p s => .ex c p s
  | .bad => .bad
def msA (E : Env) (xs : XS) : Out SV → Out (List D)
  | .ok v s1 => match v.d with
    | some d => msB d (evMs E xs s1)
    | none => .bad
  | .ex c p s => .ex c p s
  | .bad => .bad
def tIsN (n : Bool) : Out PV → Out Bool
  | .ok p s1 => .opt s1 ((s1.look p).map fun d => if n = true then !decide (d = .non) else decide (d = .non))
  | .ex c p s => .ex c p s
  | .bad => .bad
def tX : Out PV → Out Bool
  | .ok p s1 => .opt s1 ((s1.look p).bind D.truth)
  | .ex c p s => .ex c p s
  | .bad => .bad
def tBl (s : S) : Option SV → Out Bool
  | some (.shr (.bl b)) => .ok b s
  | _ => .bad
def tCmpB (o : Op) (x : PV) : Out PV → Out Bool
  | .ok y s2 => tBl s2 ((s2.looks [x, y]).bind (opSem o))
  | .ex c p s => .ex c p s
  | .bad => .bad
def tCmpA (E : Env) (o : Op) (b : X) : Out PV → Out Bool
  | .ok x s1 => tCmpB o x (evPp E b s1)
  | .ex c p s => .ex c p s
  | .bad => .bad
def t2D (p : Op) (y : PV) : Out PV → Out Bool
  | .ok z s3 => tBl s3 ((s3.looks [y, z]).bind (opSem p))
  | .ex c p s => .ex c p s
  | .bad => .bad
def t2C (E : Env) (p : Op) (c : X) (y : PV) (s : S) : Option SV → Out Bool
  | some (.shr (.bl b)) => if b = true then t2D p y (evPp E c s) else .ok false s
  | _ => .bad
def t2B (E : Env) (o p : Op) (c : X) (x : PV) : Out PV → Out Bool
  | .ok y s2 => t2C E p c y s2 ((s2.looks [x, y]).bind (opSem o))
  | .ex c p s => .ex c p s
  | .bad => .bad
def t2A (E : Env) (o p : Op) (b c : X) : Out PV → Out Bool
  | .ok x s1 => t2B E o p c x (evPp E b s1)
  | .ex c p s => .ex c p s
  | .bad => .bad
def tAndK (E : Env) (b : T) : Out Bool → Out Bool
  | .ok c s1 => if c = true then evT E b s1 else .ok false s1
  | .ex c p s => .ex c p s
  | .bad => .bad
def tOrK (E : Env) (b : T) : Out Bool → Out Bool
  | .ok c s1 => if c = true then .ok true s1 else evT E b s1
  | .ex c p s => .ex c p s
  | .bad => .bad
def tNotK : Out Bool → Out Bool
  | .ok c s1 => .ok (!c) s1
  | .ex c p s => .ex c p s
  | .bad => .bad
def it1 : Out PV → Out (List PV)
  | .ok p s1 => .ok [p] s1
  | .ex c p s => .ex c p s
  | .bad => .bad
def it2B (p : PV) : Out PV → Out (List PV)
  | .ok q s2 => .ok [p, q] s2
  | .ex c p s => .ex c p s
  | .bad => .bad
def it2 (E : Env) (b : X) : Out PV → Out (List PV)
  | .ok p s1 => it2B p (evPp E b s1)
  | .ex c p s => .ex c p s
  | .bad => .bad
/-! statements -/
def exprK : Out SV → O
  | .ok _ s1 => .nx s1
  | .ex c p s => .ex c p s
  | .bad => .bad
def setK (i : Nat) : Out SV → O
  | .ok v s1 => if i < s1.env.length then .nx (s1.put i v) else .bad
  | .ex c p s => .ex c p s
  | .bad => .bad
def setfK (i : Nat) : Out SV → O
  | .ok v s1 => match v.d with
    | some d => if i < s1.env.length then .nx (s1.put i (.shr d)) else .bad
    | none => .bad
  | .ex c p s => .ex c p s
  | .bad => .bad
def nxO : Option S → O
  | some s => .nx s
  | none => .bad
def asgK (t : Tg) : Out SV → O
  | .ok v s1 => match v.d with
    | some d => nxO (S.asg t d s1)
    | none => .bad
  | .ex c p s => .ex c p s
  | .bad => .bad
def retK : Out SV → O
  | .ok v s1 => .rt v s1
  | .ex c p s => .ex c p s
  | .bad => .bad
def sixC (i : Nat) (d : D) (s2 : S) : Option D → Option D → O
  | some (.lst xs), some (.int j) => match ixN xs.length j with
          | some n => nxO (s2.store i (.lst (xs.set n d)))
          | none => .bad
  | _, _ => .bad
def sixB (i : Nat) (d : D) : Out PV → O
  | .ok p s2 => sixC i d s2 (s2.look (.at i)) (s2.look p)
  | .ex c p s => .ex c p s
  | .bad => .bad
def sixA (E : Env) (i : Nat) (k : X) : Out SV → O
  | .ok v s1 => match v.d with
    | some d => match s1.slot i with
      | some _ => sixB i d (evPp E k s1)
      | none => .bad
    | none => .bad
  | .ex c p s => .ex c p s
  | .bad => .bad
def ifK (E : Env) (a b : List C) (w : List Nat) : Out Bool → O
  | .ok c s1 => if c = true then (exCs E a s1).wipe w else (exCs E b s1).wipe w
  | .ex c p s => .ex c p s
  | .bad => .bad
def forG (E : Env) (b : List C) : Option S → O
  | none => .bad
  | some s' => exCs E b s'
def forStep (E : Env) (tg : Tg) (b : List C) (s : S) (d : D) : O := forG E b (S.asg tg d s)
def forI (E : Env) (tg : Tg) (b : List C) (w : List Nat) (ps : List PV) (ds : List D) (s1 : S) : Option (List D) → O
  | none => .bad
  | some items => forRun (forStep E tg b) (looksB ps ds) w items s1
def forL (E : Env) (tg : Tg) (it : It) (b : List C) (w : List Nat) (ps : List PV) (s1 : S) : Option (List D) → O
  | none => .bad
  | some ds => forI E tg b w ps ds s1 (itSem it ds)
def forF (E : Env) (tg : Tg) (it : It) (b : List C) (w : List Nat) : Option (List PV × S) → O
  | none => .bad
  | some (ps, s1) => forL E tg it b w ps s1 (s1.looks ps)
def forA (E : Env) (tg : Tg) (it : It) (b : List C) (w : List Nat) : Out (List PV) → O
  | .ok ps0 s0 => forF E tg it b w (s0.fixes ps0)
  | .ex c p s => .ex c p s
  | .bad => .bad
def tryH (E : Env) (c' : Nat) (p : List (Str × D)) (i : Option Nat) (h : List HC) (s1 : S) : Option Bool → O
  | some true => if (i.toList.all fun j => decide (j < s1.env.length)) = true then (exHs E.sub c' p h (s1.wipe i.toList)).wipeA i.toList else .bad
  | some false => .ex c' p s1
  | none => .bad
def tryK (E : Env) (c : Nat) (i : Option Nat) (h : List HC) : O → O
  | .ex c' p s1 => tryH E c' p i h s1 (E.sub c' c)
  | o => o
def seqK (E : Env) (cs : List C) : O → O
  | .nx s => exCs E cs s
  | o => o
variable {E : Env} {s : S}
section
@[simp] theorem k_var (i) : evX E (.var i) s = match s.slot i with
    | some (.shr d) => .ok (.shr d) s
    | some (.own d) => .ok (.shr d) (s.put i (.shr d))
    | _ => .bad := by
  unfold evX S.move
  cases s.slot i with
  | none => rfl
  | some y => cases y <;> rfl
@[simp] theorem k_int : evX E (.int i) s = .ok (.shr (.int i)) s := rfl
@[simp] theorem k_str : evX E (.str z) s = .ok (.shr (.str z)) s := rfl
@[simp] theorem k_bl : evX E (.bl b) s = .ok (.shr (.bl b)) s := rfl
@[simp] theorem k_non : evX E .non s = .ok (.shr .non) s := rfl
@[simp] theorem k_glo : evX E (.glo q_ d) s = .ok (.shr d) s := rfl
theorem bind_ite {α β : Type} (o : Out α) (f : α → S → Out β) : o.bind f = match o with | .ok a s => f a s | .ex c p s => .ex c p s | .bad => .bad := by cases o <;> rfl
@[simp] theorem k_op : evX E (.op o xs) s = opK o (evPs E xs s) := by
  show (evPs E xs s).bind _ = _
  cases evPs E xs s <;> rfl
@[simp] theorem k_lst : evX E (.lst xs) s = lstK (evMs E xs s) := by
  show (evMs E xs s).bind _ = _
  cases evMs E xs s <;> rfl
@[simp] theorem k_tup : evX E (.tup xs) s = tupK (evMs E xs s) := by
  show (evMs E xs s).bind _ = _
  cases evMs E xs s <;> rfl
@[simp] theorem k_cmp2 : evX E (.cmp2 o p a b c) s = cmp2A E o p b c (evPp E a s) := by
  show (evPp E a s).bind _ = _
  cases evPp E a s with
  | ok x s1 =>
    show (evPp E b s1).bind _ = cmp2B E o p c x (evPp E b s1)
    cases evPp E b s1 with
    | ok y s2 =>
      show (match (s2.looks [x, y]).bind (opSem o) with
        | some (.shr (.bl true)) => (evPp E c s2).bind fun z s3 => Out.opt s3 ((s3.looks [y, z]).bind (opSem p))
        | some (.shr (.bl false)) => .ok (.shr (.bl false)) s2
        | _ => .bad) = cmp2C E p c y s2 ((s2.looks [x, y]).bind (opSem o))
      generalize (s2.looks [x, y]).bind (opSem o) = r
      unfold cmp2C
      split
      · show (evPp E c s2).bind _ = _
        cases evPp E c s2 <;> rfl
      · rfl
      · rfl
    | ex c p s => rfl
    | bad => rfl
  | ex c p s => rfl
  | bad => rfl
@[simp] theorem k_and : evX E (.and a b) s = andK E b (evX E a s) := by
  show (evX E a s).bind _ = _
  cases evX E a s with
  | ok v s1 => cases v with
    | shr d => cases d <;> first | rfl | (rename_i b; cases b <;> rfl)
    | own d => rfl
    | bor d => rfl
  | ex c p s => rfl
  | bad => rfl
@[simp] theorem k_or : evX E (.or a b) s = orK E b (evX E a s) := by
  show (evX E a s).bind _ = _
  cases evX E a s with
  | ok v s1 => cases v with
    | shr d => cases d <;> first | rfl | (rename_i b; cases b <;> rfl)
    | own d => rfl
    | bor d => rfl
  | ex c p s => rfl
  | bad => rfl
@[simp] theorem k_not : evX E (.not a) s = notK (evX E a s) := by
  show (evX E a s).bind _ = _
  cases evX E a s with
  | ok v s1 => cases v with
    | shr d => cases d <;> rfl
    | own d => rfl
    | bor d => rfl
  | ex c p s => rfl
  | bad => rfl
@[simp] theorem k_ite : evX E (.ite t a b) s = iteK E a b (evT E t s) := by
  show (evT E t s).bind _ = _
  cases evT E t s <;> rfl
@[simp] theorem k_sl3 : evX E (.sl3 a b c) s = sl3A E b c (evPp E a s) := by
  show (evPp E a s).bind _ = _
  cases evPp E a s with
  | ok x s1 =>
    show (evPp E b s1).bind _ = sl3B E c x (evPp E b s1)
    cases evPp E b s1 with
    | ok y s2 =>
      show (match s2.look y with
        | some (.int i) => (evPp E c s2).bind _
        | _ => .bad) = _
      unfold sl3B
      simp only
      split
      · cases evPp E c s2 <;> rfl
      · rfl
    | ex c p s => rfl
    | bad => rfl
  | ex c p s => rfl
  | bad => rfl
@[simp] theorem k_bm : evX E (.bm m o xs) s = bmA E m xs (evPp E o s) := by
  show (evPp E o s).bind _ = _
  cases evPp E o s with
  | ok p s1 =>
    show (match s1.look p with
      | some d => if bmTy m d = true then (evPs E xs s1).bind _ else .bad
      | none => .bad) = _
    unfold bmA
    simp only
    cases s1.look p with
    | none => rfl
    | some d =>
      simp only
      split
      · cases evPs E xs s1 <;> rfl
      · rfl
  | ex c p s => rfl
  | bad => rfl
@[simp] theorem k_call : evX E (.call f ms xs) s = callK E f ms (evPs E xs s) := by
  show (evPs E xs s).bind _ = _
  cases evPs E xs s <;> rfl
@[simp] theorem k_mut : evX E (.mut m i xs) s = match s.look (.at i) with
    | some (.lst _) => mutA m i (evMs E xs s)
    | _ => .bad := by
  show (match s.look (.at i) with
    | some (.lst _) => (evMs E xs s).bind _
    | _ => .bad) = _
  split
  · cases evMs E xs s <;> rfl
  · rfl
theorem comp_aux {w : List Nat} {ps : List PV} {s1 : S} (f : S → D → Out (Option D)) (hf : f = compStep E w tg t e) : (match s1.looks ps with
      | none => Out.bad
      | some ds => match itSem it ds with
        | none => .bad
        | some items => (compRun f (fun s => decide (s.looks ps = some ds)) items [] (s1.wipe w)).bind fun acc s2 => .ok (.own (.lst acc)) (s1.restore s2 w)) = compL E w tg it t e ps s1 (s1.looks ps) := by
  subst hf
  cases s1.looks ps with
  | none => rfl
  | some ds =>
    show (match itSem it ds with
      | none => .bad
      | some items => _) = compI E w tg t e ps ds s1 (itSem it ds)
    cases itSem it ds with
    | none => rfl
    | some items =>
      show (compRun (compStep E w tg t e) (looksB ps ds) items [] (s1.wipe w)).bind _ = compZ s1 w _
      cases compRun (compStep E w tg t e) (looksB ps ds) items [] (s1.wipe w) <;> rfl
@[simp] theorem k_comp : evX E (.comp own tg it t e) s = compA E (own.map (·.2)) tg it t e (evIt E it s) := by
  show (evIt E it s).bind _ = _
  cases evIt E it s with
  | ok ps s1 =>
    refine comp_aux _ ?_
    funext s d
    unfold compStep compG
    cases S.asg tg d s with
    | none => rfl
    | some s' =>
      simp only
      cases evT E t s' with
      | ok c s2 => cases c with
        | false => rfl
        | true => show (evX E e s2).bind _ = compE _ (evX E e s2); cases evX E e s2 <;> rfl
      | ex c p s => rfl
      | bad => rfl
  | ex c p s => rfl
  | bad => rfl
/-! operands -/
@[simp] theorem p_var (i) : evPp E (.var i) s = match s.slot i with
    | some _ => .ok (.at i) s
    | none => .bad := rfl
theorem pvOf_K {x : X} (h : ∀ i, x ≠ .var i) : evPp E x s = pvK (evX E x s) := by
  unfold evPp
  cases x <;> first | (exact absurd rfl (h _)) | rfl | (show (evX E _ s).bind _ = _; cases evX E _ s <;> rfl)
@[simp] theorem p_int : evPp E (.int i) s = .ok (.val (.int i)) s := rfl
@[simp] theorem p_str : evPp E (.str i) s = .ok (.val (.str i)) s := rfl
@[simp] theorem p_bl : evPp E (.bl i) s = .ok (.val (.bl i)) s := rfl
@[simp] theorem p_non : evPp E .non s = .ok (.val .non) s := rfl
@[simp] theorem p_glo : evPp E (.glo q_ d) s = .ok (.val d) s := rfl
@[simp] theorem p_op : evPp E (.op o xs) s = pvK (opK o (evPs E xs s)) := by rw [pvOf_K (by intro _ h; cases h), k_op]
@[simp] theorem p_lst : evPp E (.lst xs) s = pvK (lstK (evMs E xs s)) := by rw [pvOf_K (by intro _ h; cases h), k_lst]
@[simp] theorem p_tup : evPp E (.tup xs) s = pvK (tupK (evMs E xs s)) := by rw [pvOf_K (by intro _ h; cases h), k_tup]
@[simp] theorem p_cmp2 : evPp E (.cmp2 o p a b c) s = pvK (cmp2A E o p b c (evPp E a s)) := by rw [pvOf_K (by intro _ h; cases h), k_cmp2]
@[simp] theorem p_and : evPp E (.and a b) s = pvK (andK E b (evX E a s)) := by rw [pvOf_K (by intro _ h; cases h), k_and]
@[simp] theorem p_or : evPp E (.or a b) s = pvK (orK E b (evX E a s)) := by rw [pvOf_K (by intro _ h; cases h), k_or]
@[simp] theorem p_not : evPp E (.not a) s = pvK (notK (evX E a s)) := by rw [pvOf_K (by intro _ h; cases h), k_not]
@[simp] theorem p_ite : evPp E (.ite t a b) s = pvK (iteK E a b (evT E t s)) := by rw [pvOf_K (by intro _ h; cases h), k_ite]
@[simp] theorem p_sl3 : evPp E (.sl3 a b c) s = pvK (sl3A E b c (evPp E a s)) := by rw [pvOf_K (by intro _ h; cases h), k_sl3]
@[simp] theorem p_bm : evPp E (.bm m o xs) s = pvK (bmA E m xs (evPp E o s)) := by rw [pvOf_K (by intro _ h; cases h), k_bm]
@[simp] theorem p_call : evPp E (.call f ms xs) s = pvK (callK E f ms (evPs E xs s)) := by rw [pvOf_K (by intro _ h; cases h), k_call]
@[simp] theorem p_mut : evPp E (.mut m i xs) s = pvK (match s.look (.at i) with
    | some (.lst _) => mutA m i (evMs E xs s)
    | _ => .bad) := by rw [pvOf_K (by intro _ h; cases h), k_mut]
@[simp] theorem p_comp : evPp E (.comp own tg it t e) s = pvK (compA E (own.map (·.2)) tg it t e (evIt E it s)) := by rw [pvOf_K (by intro _ h; cases h), k_comp]
@[simp] theorem ps_nil : evPs E .nil s = .ok [] s := rfl
@[simp] theorem ps_cons : evPs E (.cons x xs) s = psA E xs (evPp E x s) := by
  show (evPp E x s).bind _ = _
  cases evPp E x s with
  | ok p s1 => show (evPs E xs s1).bind _ = psB p (evPs E xs s1); cases evPs E xs s1 <;> rfl
  | ex c p s => rfl
  | bad => rfl
@[simp] theorem ms_nil : evMs E .nil s = .ok [] s := rfl
@[simp] theorem ms_cons : evMs E (.cons x xs) s = msA E xs (evX E x s) := by
  show (evX E x s).bind _ = _
  cases evX E x s with
  | ok v s1 =>
    show (match v.d with | some d => (evMs E xs s1).bind _ | none => .bad) = msA E xs (.ok v s1)
    unfold msA
    simp only
    cases v.d with
    | none => rfl
    | some d => show (evMs E xs s1).bind _ = msB d (evMs E xs s1); cases evMs E xs s1 <;> rfl
  | ex c p s => rfl
  | bad => rfl
/-! tests -/
@[simp] theorem t_tru : evT E .tru s = .ok true s := rfl
@[simp] theorem t_isNk : evT E (.isN n a) s = tIsN n (evPp E a s) := by show (evPp E a s).bind _ = _; cases evPp E a s <;> rfl
@[simp] theorem t_xk : evT E (.x e) s = tX (evPp E e s) := by show (evPp E e s).bind _ = _; cases evPp E e s <;> rfl
@[simp] theorem t_cmpk : evT E (.cmp o a b) s = tCmpA E o b (evPp E a s) := by
  show (evPp E a s).bind _ = _
  cases evPp E a s with
  | ok x s1 =>
    show (evPp E b s1).bind _ = tCmpB o x (evPp E b s1)
    cases evPp E b s1 with
    | ok y s2 =>
      show (match (s2.looks [x, y]).bind (opSem o) with
        | some (.shr (.bl b)) => Out.ok b s2
        | _ => .bad) = tBl s2 ((s2.looks [x, y]).bind (opSem o))
      unfold tBl
      rfl
    | ex c p s => rfl
    | bad => rfl
  | ex c p s => rfl
  | bad => rfl
@[simp] theorem t_cmp2k : evT E (.cmp2 o p a b c) s = t2A E o p b c (evPp E a s) := by
  show (evPp E a s).bind _ = _
  cases evPp E a s with
  | ok x s1 =>
    show (evPp E b s1).bind _ = t2B E o p c x (evPp E b s1)
    cases evPp E b s1 with
    | ok y s2 =>
      show (match (s2.looks [x, y]).bind (opSem o) with
        | some (.shr (.bl true)) => (evPp E c s2).bind fun z s3 => match (s3.looks [y, z]).bind (opSem p) with
          | some (.shr (.bl b)) => Out.ok b s3
          | _ => .bad
        | some (.shr (.bl false)) => .ok false s2
        | _ => .bad) = t2C E p c y s2 ((s2.looks [x, y]).bind (opSem o))
      generalize (s2.looks [x, y]).bind (opSem o) = r
      unfold t2C
      split
      · show (evPp E c s2).bind _ = t2D p y (evPp E c s2)
        cases evPp E c s2 <;> rfl
      · rfl
      · rename_i h1 h2
        split
        · rename_i b; cases b with
          | true => exact absurd rfl h1
          | false => exact absurd rfl h2
        · rfl
    | ex c p s => rfl
    | bad => rfl
  | ex c p s => rfl
  | bad => rfl
@[simp] theorem t_andk : evT E (.and a b) s = tAndK E b (evT E a s) := by show (evT E a s).bind _ = _; cases evT E a s <;> rfl
@[simp] theorem t_ork : evT E (.or a b) s = tOrK E b (evT E a s) := by show (evT E a s).bind _ = _; cases evT E a s <;> rfl
@[simp] theorem t_notk : evT E (.not a) s = tNotK (evT E a s) := by show (evT E a s).bind _ = _; cases evT E a s <;> rfl
@[simp] theorem i_seq : evIt E (.seq e) s = it1 (evPp E e s) := by show (evPp E e s).bind _ = _; cases evPp E e s <;> rfl
@[simp] theorem i_rng : evIt E (.rng e) s = it1 (evPp E e s) := by show (evPp E e s).bind _ = _; cases evPp E e s <;> rfl
@[simp] theorem i_enum : evIt E (.enum e) s = it1 (evPp E e s) := by show (evPp E e s).bind _ = _; cases evPp E e s <;> rfl
@[simp] theorem i_rev : evIt E (.rev e) s = it1 (evPp E e s) := by show (evPp E e s).bind _ = _; cases evPp E e s <;> rfl
@[simp] theorem i_rng2 : evIt E (.rng2 a b) s = it2 E b (evPp E a s) := by
  show (evPp E a s).bind _ = _
  cases evPp E a s with
  | ok x s1 => show (evPp E b s1).bind _ = it2B x (evPp E b s1); cases evPp E b s1 <;> rfl
  | ex c p s => rfl
  | bad => rfl
@[simp] theorem i_zip : evIt E (.zip a b) s = it2 E b (evPp E a s) := by
  show (evPp E a s).bind _ = _
  cases evPp E a s with
  | ok x s1 => show (evPp E b s1).bind _ = it2B x (evPp E b s1); cases evPp E b s1 <;> rfl
  | ex c p s => rfl
  | bad => rfl
/-! statements -/
@[simp] theorem c_pass : exC E .pass s = .nx s := rfl
@[simp] theorem c_brk : exC E .brk s = .bk s := rfl
@[simp] theorem c_cont : exC E .cont s = .ct s := rfl
@[simp] theorem c_expr : exC E (.expr e) s = exprK (evX E e s) := by show (evX E e s).to _ = _; cases evX E e s <;> rfl
@[simp] theorem c_set : exC E (.set i e) s = setK i (evX E e s) := by show (evX E e s).to _ = _; cases evX E e s <;> rfl
@[simp] theorem c_setf : exC E (.setf i e) s = setfK i (evX E e s) := by show (evX E e s).to _ = _; cases evX E e s <;> rfl
@[simp] theorem c_asg : exC E (.asg t e) s = asgK t (evX E e s) := by
  show (evX E e s).to _ = _
  cases evX E e s with
  | ok v s1 =>
    show (match v.d with | some d => (match S.asg t d s1 with | some s2 => O.nx s2 | none => .bad) | none => .bad) = asgK t (.ok v s1)
    unfold asgK
    simp only
    cases v.d with
    | none => rfl
    | some d => simp only; cases S.asg t d s1 <;> rfl
  | ex c p s => rfl
  | bad => rfl
@[simp] theorem c_retn : exC E .retn s = .rt (.shr .non) s := rfl
@[simp] theorem c_ret : exC E (.ret e) s = retK (evX E e s) := by show (evX E e s).to _ = _; cases evX E e s <;> rfl
@[simp] theorem c_retv : exC E (.retv i) s = match s.slot i with
    | some (.own d) => .rt (.own d) (s.wipe [i])
    | some (.shr d) => .rt (.shr d) s
    | _ => .bad := rfl
@[simp] theorem c_setix : exC E (.setix i k e) s = sixA E i k (evX E e s) := by
  show (evX E e s).to _ = _
  cases evX E e s with
  | ok v s1 =>
    show (match v.d with
      | some d => match s1.slot i with
        | some _ => (evPp E k s1).to _
        | none => .bad
      | none => .bad) = sixA E i k (.ok v s1)
    unfold sixA
    simp only
    cases v.d with
    | none => rfl
    | some d =>
      simp only
      cases s1.slot i with
      | none => rfl
      | some y =>
        show (evPp E k s1).to _ = sixB i d (evPp E k s1)
        cases evPp E k s1 with
        | ok p s2 =>
          show (match s2.look (.at i), s2.look p with
            | some (.lst xs), some (.int j) => match ixN xs.length j with
              | some n => match s2.store i (.lst (xs.set n d)) with
                | some s3 => O.nx s3
                | none => .bad
              | none => .bad
            | _, _ => .bad) = sixC i d s2 (s2.look (.at i)) (s2.look p)
          unfold sixC
          split
          · split
            · rename_i n hn
              cases s2.store i _ <;> rfl
            · rfl
          · rfl
        | ex c p s => rfl
        | bad => rfl
  | ex c p s => rfl
  | bad => rfl
@[simp] theorem c_iff : exC E (.iff t a b w) s = ifK E a b w (evT E t s) := by
  show (evT E t s).to _ = _
  cases evT E t s with
  | ok c s1 => cases c <;> rfl
  | ex c p s => rfl
  | bad => rfl
theorem for_aux {w : List Nat} {s0 : S} {ps0 : List PV} (f : S → D → O) (hf : f = forStep E tg b) : (match s0.fixes ps0 with
      | none => O.bad
      | some (ps, s1) => match s1.looks ps with
        | none => .bad
        | some ds => match itSem it ds with
          | none => .bad
          | some items => forRun f (fun s => decide (s.looks ps = some ds)) w items s1) = forF E tg it b w (s0.fixes ps0) := by
  subst hf
  cases s0.fixes ps0 with
  | none => rfl
  | some r =>
    obtain ⟨ps, s1⟩ := r
    show (match s1.looks ps with
      | none => .bad
      | some ds => _) = forL E tg it b w ps s1 (s1.looks ps)
    cases s1.looks ps with
    | none => rfl
    | some ds =>
      show (match itSem it ds with
        | none => .bad
        | some items => _) = forI E tg b w ps ds s1 (itSem it ds)
      cases itSem it ds <;> rfl
@[simp] theorem c_for : exC E (.for tg it b w) s = forA E tg it b w (evIt E it s) := by
  show (evIt E it s).to _ = _
  cases evIt E it s with
  | ok ps0 s0 =>
    refine for_aux _ ?_
    funext s d
    unfold forStep forG
    cases S.asg tg d s <;> rfl
  | ex c p s => rfl
  | bad => rfl
@[simp] theorem c_while : exC E (.while t b w) s = whileRun (evT E t) (exCs E b) w E.wf s := rfl
@[simp] theorem c_raise : exC E (.raise c) s = .ex c [] s := rfl
@[simp] theorem c_try : exC E (.try1 b c i h w) s = (tryK E c i h (exCs E b s)).wipe w := by
  show O.wipe w _ = _
  cases exCs E b s with
  | ex c' p s1 =>
    show O.wipe w (match E.sub c' c with
      | some true => _
      | some false => .ex c' p s1
      | none => .bad) = O.wipe w (tryH E c' p i h s1 (E.sub c' c))
    cases E.sub c' c with
    | none => rfl
    | some r => cases r <;> rfl
  | _ => rfl
@[simp] theorem cs_nil : exCs E [] s = .nx s := rfl
@[simp] theorem cs_cons : exCs E (c :: cs) s = seqK E cs (exC E c s) := by
  show (exC E c s).bind _ = _
  cases exC E c s <;> rfl
end
end Den
set_option Elab.async false
set_option linter.all false
set_option maxRecDepth 100000
set_option autoImplicit true
namespace Den
open PySem L2
@[simp] theorem addS_s0 : addS  (.int i) (.int j) = some (.shr (.int (i + j))) := rfl
@[simp] theorem addS_s1 : addS  (.str i) (.str j) = if i.length + j.length ≤ lim then some (.shr (.str (i ++ j))) else none := rfl
@[simp] theorem addS_s2 : addS  (.lst i) (.lst j) = if i.length + j.length ≤ lim then some (.own (.lst (i ++ j))) else none := rfl
@[simp] theorem addS_s3 : addS  (.tup i) (.tup j) = if i.length + j.length ≤ lim then some (.shr (.tup (i ++ j))) else none := rfl
@[simp] theorem mulS_s0 : mulS  (.int i) (.int j) = if mulG i j = true then some (.shr (.int (i * j))) else none := rfl
@[simp] theorem mulS_s1 : mulS  (.str z) (.int k) = if 0 ≤ k ∧ k ≤ 1000 ∧ z.length ≤ 1000 then some (.shr (.str (Txt.mul z k))) else none := rfl
@[simp] theorem ixS_s0 : ixS  (.lst xs) (.int i) = (ixI xs i).map .shr := rfl
@[simp] theorem ixS_s1 : ixS  (.tup xs) (.int i) = (ixI xs i).map .shr := rfl
@[simp] theorem ixS_s2 : ixS  (.str z) (.int i) = if z.length ≤ lim then (ixI z.cps.toList i).map fun c => .shr (.str ⟨#[c]⟩) else none := rfl
@[simp] theorem lenS_s0 : lenS  (.lst xs) = some (.shr (.int xs.length)) := rfl
@[simp] theorem lenS_s1 : lenS  (.tup xs) = some (.shr (.int xs.length)) := rfl
@[simp] theorem lenS_s2 : lenS  (.str z) = if z.length ≤ lim then some (.shr (.int z.length)) else none := rfl
@[simp] theorem ltS_s0 : ltS  (.int i) (.int j) = some (decide (i < j)) := rfl
@[simp] theorem ltS_s1 : ltS  (.str i) (.str j) = some (decide (i.cps.toList < j.cps.toList)) := rfl
@[simp] theorem leS_s0 : leS  (.int i) (.int j) = some (decide (i ≤ j)) := rfl
@[simp] theorem leS_s1 : leS  (.str i) (.str j) = some (!decide (j.cps.toList < i.cps.toList)) := rfl
@[simp] theorem tupS_s0 : tupS  (.lst xs) = some (.shr (.tup xs)) := rfl
@[simp] theorem tupS_s1 : tupS  (.tup xs) = some (.shr (.tup xs)) := rfl
@[simp] theorem lstS_s0 : lstS  (.lst xs) = some (.own (.lst xs)) := rfl
@[simp] theorem lstS_s1 : lstS  (.tup xs) = some (.own (.lst xs)) := rfl
@[simp] theorem idxS_s0 : idxS  (.lst xs) d = if ((d.flat && xs.all D.flat) || (d.okq && (D.lst xs).okq)) = true then (xs.findIdx? fun y => D.eqv y d).map fun k => .shr (.int (k : Nat)) else none := rfl
@[simp] theorem blO_s0 : blO  (some b) = some (.shr (.bl b)) := rfl
@[simp] theorem blO_s1 : blO  none = none := rfl
@[simp] theorem nblO_s0 : nblO  (some b) = some (.shr (.bl (!b))) := rfl
@[simp] theorem nblO_s1 : nblO  none = none := rfl
@[simp] theorem sortS_s0 : sortS  (.lst xs) = (D.ints xs).map fun is => .own (.lst ((msort is).map .int)) := rfl
@[simp] theorem opSem_s0 : opSem  (.add) [d, e] = addS d e := rfl
@[simp] theorem opSem_s1 : opSem  (.sub) [.int i, .int j] = some (.shr (.int (i - j))) := rfl
@[simp] theorem opSem_s2 : opSem  (.mul) [d, e] = mulS d e := rfl
@[simp] theorem opSem_s3 : opSem  (.fdiv) [.int i, .int j] = if divG j = true then some (.shr (.int (i / j))) else none := rfl
@[simp] theorem opSem_s4 : opSem  (.mod) [.int i, .int j] = if 0 < j then some (.shr (.int (i % j))) else none := rfl
@[simp] theorem opSem_s5 : opSem  (.pow) [.int i, .int j] = if 0 ≤ j ∧ j ≤ 1000 ∧ i.natAbs < 2 ^ 64 then some (.shr (.int (i ^ j.toNat))) else none := rfl
@[simp] theorem opSem_s6 : opSem  (.band) [.int i, .int j] = some (.shr (.int (Builtin.bitAnd i j))) := rfl
@[simp] theorem opSem_s7 : opSem  (.shr) [.int i, .int j] = if 0 ≤ j then some (.shr (.int (i / 2 ^ j.toNat))) else none := rfl
@[simp] theorem opSem_s8 : opSem  (.neg) [.int i] = some (.shr (.int (-i))) := rfl
@[simp] theorem opSem_s9 : opSem  (.eq) [d, e] = blO (D.eqq d e) := rfl
@[simp] theorem opSem_s10 : opSem  (.ne) [d, e] = nblO (D.eqq d e) := rfl
@[simp] theorem opSem_s11 : opSem  (.lt) [d, e] = blO (ltS d e) := rfl
@[simp] theorem opSem_s12 : opSem  (.le) [d, e] = blO (leS d e) := rfl
@[simp] theorem opSem_s13 : opSem  (.gt) [d, e] = blO (ltS e d) := rfl
@[simp] theorem opSem_s14 : opSem  (.ge) [d, e] = blO (leS e d) := rfl
@[simp] theorem opSem_s15 : opSem  (.isin) [d, e] = blO (inS d e) := rfl
@[simp] theorem opSem_s16 : opSem  (.notin) [d, e] = nblO (inS d e) := rfl
@[simp] theorem opSem_s17 : opSem  (.isN) [d] = some (.shr (.bl (decide (d = .non)))) := rfl
@[simp] theorem opSem_s18 : opSem  (.isnN) [d] = some (.shr (.bl (!decide (d = .non)))) := rfl
@[simp] theorem opSem_s19 : opSem  (.ix) [d, e] = ixS d e := rfl
@[simp] theorem opSem_s20 : opSem  (.sl false false) [d] = slS none none d := rfl
@[simp] theorem opSem_s21 : opSem  (.sl true false) [d, .int i] = slS (some i) none d := rfl
@[simp] theorem opSem_s22 : opSem  (.sl false true) [d, .int j] = slS none (some j) d := rfl
@[simp] theorem opSem_s23 : opSem  (.rev) [.lst xs] = some (.own (.lst xs.reverse)) := rfl
@[simp] theorem opSem_s24 : opSem  (.len) [d] = lenS d := rfl
@[simp] theorem opSem_s25 : opSem  (.int1) [.int i] = some (.shr (.int i)) := rfl
@[simp] theorem opSem_s26 : opSem  (.str1) [.int i] = if i.natAbs.log2 < 1920 then some (.shr (.str (toString i))) else none := rfl
@[simp] theorem opSem_s27 : opSem  (.tuple) [d] = tupS d := rfl
@[simp] theorem opSem_s28 : opSem  (.list) [d] = lstS d := rfl
@[simp] theorem opSem_s29 : opSem  (.sorted) [d] = sortS d := rfl
@[simp] theorem opSem_s30 : opSem  (.all) [.lst xs] = (D.bls xs).map fun bs => .shr (.bl (bs.all id)) := rfl
@[simp] theorem opSem_s31 : opSem  (.any) [.lst xs] = (D.bls xs).map fun bs => .shr (.bl (bs.any id)) := rfl
@[simp] theorem opSem_s32 : opSem  (.sum) [.lst xs] = (D.ints xs).map fun is => .shr (.int is.sum) := rfl
@[simp] theorem opSem_s33 : opSem  (.max2) [.int i, .int j] = some (.shr (.int (if j > i then j else i))) := rfl
@[simp] theorem opSem_s34 : opSem  (.min2) [.int i, .int j] = some (.shr (.int (if j < i then j else i))) := rfl
@[simp] theorem opSem_s35 : opSem  (.divmod) [.int i, .int j] = if divG j = true then some (.shr (.tup [.int (i / j), .int (i % j)])) else none := rfl
@[simp] theorem opSem_s36 : opSem  (.isinst [t]) [d] = blO (isD d t) := rfl
@[simp] theorem bmTy_s0 : bmTy  (.index) (.lst q1_) = true := rfl
@[simp] theorem bmSem_s0 : bmSem  (.index) d [e] = idxS d e := rfl
@[simp] theorem itSem_s0 : itSem  (.seq q1_) [.lst xs] = some xs := rfl
@[simp] theorem itSem_s1 : itSem  (.seq q1_) [.tup xs] = some xs := rfl
@[simp] theorem itSem_s2 : itSem  (.seq q1_) [.frl xs] = some xs := rfl
@[simp] theorem itSem_s3 : itSem  (.seq q1_) [.str z] = some (z.cps.toList.map fun c => .str ⟨#[c]⟩) := rfl
@[simp] theorem itSem_s4 : itSem  (.rng q1_) [.int n] = if -(2 ^ 62) ≤ n ∧ n < 2 ^ 62 then some ((List.range n.toNat).map fun k => .int (k : Nat)) else none := rfl
@[simp] theorem itSem_s5 : itSem  (.rng2 q1_ q2_) [.int a, .int n] = if -(2 ^ 62) ≤ a ∧ a < 2 ^ 62 ∧ -(2 ^ 62) ≤ n ∧ n < 2 ^ 62 then some ((List.range (n - a).toNat).map fun k => .int (a + (k : Nat))) else none := rfl
@[simp] theorem itSem_s6 : itSem  (.enum q1_) [.lst xs] = some (xs.zipIdx.map fun p => .tup [.int p.2, p.1]) := rfl
@[simp] theorem itSem_s7 : itSem  (.zip q1_ q2_) [.lst xs, .lst ys] = some ((xs.zip ys).map fun p => .tup [p.1, p.2]) := rfl
@[simp] theorem itSem_s8 : itSem  (.zip q1_ q2_) [.tup xs, .tup ys] = some ((xs.zip ys).map fun p => .tup [p.1, p.2]) := rfl
@[simp] theorem itSem_s9 : itSem  (.rev q1_) [.lst xs] = some xs.reverse := rfl
@[simp] theorem itSem_s10 : itSem  (.rev q1_) [.tup xs] = some xs.reverse := rfl
@[simp] theorem muSem_s0 : muSem  (.append) (.lst xs) [d] = if xs.length < lim then some (.lst (xs ++ [d]), .non) else none := rfl
@[simp] theorem muSem_s1 : muSem  (.reverse) (.lst xs) [] = some (.lst xs.reverse, .non) := rfl
@[simp] theorem muSem_s2 : muSem  (.clear) (.lst q1_) [] = some (.lst [], .non) := rfl
@[simp] theorem muSem_s3 : muSem  (.pop) (.lst xs) [] = (xs.getLast?).map fun d => (.lst xs.dropLast, d) := rfl
@[simp] theorem muSem_s4 : muSem  (.popat) (.lst xs) [.int i] = if 0 ≤ i ∧ i < xs.length ∧ i < 2 ^ 62 then (xs[i.toNat]?).map fun d => (.lst (xs.eraseIdx i.toNat), d) else none := rfl
@[simp] theorem muSem_s5 : muSem  (.insert) (.lst xs) [.int i, d] = if 0 ≤ i ∧ i ≤ xs.length ∧ xs.length < lim then some (.lst (xs.insertIdx i.toNat d), .non) else none := rfl
@[simp] theorem muSem_s6 : muSem  (.extend) (.lst xs) [.lst ys] = if xs.length + ys.length ≤ lim then some (.lst (xs ++ ys), .non) else none := rfl
@[simp] theorem D_truth_s0 : D.truth  (.non) = some false := rfl
@[simp] theorem D_truth_s1 : D.truth  (.bl b) = some b := rfl
@[simp] theorem D_truth_s2 : D.truth  (.int i) = some (i != 0) := rfl
@[simp] theorem D_truth_s3 : D.truth  (.str s) = if s.length ≤ lim then some ((s.length : Int) != 0) else none := rfl
@[simp] theorem D_truth_s4 : D.truth  (.lst xs) = some (!xs.isEmpty) := rfl
@[simp] theorem D_truth_s5 : D.truth  (.tup xs) = some (!xs.isEmpty) := rfl
@[simp] theorem D_seq_s0 : D.seq  (.lst xs) = some xs := rfl
@[simp] theorem D_seq_s1 : D.seq  (.tup xs) = some xs := rfl
@[simp] theorem D_ints_s0 : D.ints  [] = some [] := rfl
@[simp] theorem D_ints_s1 : D.ints  (.int i :: r) = (D.ints r).map fun is => i :: is := rfl
@[simp] theorem D_bls_s0 : D.bls  [] = some [] := rfl
@[simp] theorem D_bls_s1 : D.bls  (.bl i :: r) = (D.bls r).map fun is => i :: is := rfl
@[simp] theorem pvK_s0 : pvK  (.ok v s1) = match v.d with
    | some d => .ok (.val d) s1
    | none => .bad := rfl
@[simp] theorem pvK_s1 : pvK  (.ex zc zp zs) = .ex zc zp zs := rfl
@[simp] theorem pvK_s2 : pvK  (.bad) = .bad := rfl
@[simp] theorem opK_s0 : opK o (.ok ps s1) = .opt s1 ((s1.looks ps).bind (opSem o)) := rfl
@[simp] theorem opK_s1 : opK o (.ex zc zp zs) = .ex zc zp zs := rfl
@[simp] theorem opK_s2 : opK o (.bad) = .bad := rfl
@[simp] theorem lstK_s0 : lstK  (.ok ds s1) = if ds.length ≤ lim then .ok (.own (.lst ds)) s1 else .bad := rfl
@[simp] theorem lstK_s1 : lstK  (.ex zc zp zs) = .ex zc zp zs := rfl
@[simp] theorem lstK_s2 : lstK  (.bad) = .bad := rfl
@[simp] theorem tupK_s0 : tupK  (.ok ds s1) = if ds.length ≤ lim then .ok (.shr (.tup ds)) s1 else .bad := rfl
@[simp] theorem tupK_s1 : tupK  (.ex zc zp zs) = .ex zc zp zs := rfl
@[simp] theorem tupK_s2 : tupK  (.bad) = .bad := rfl
@[simp] theorem cmp2D_s0 : cmp2D E p y s (.ok z s3) = .opt s3 ((s3.looks [y, z]).bind (opSem p)) := rfl
@[simp] theorem cmp2D_s1 : cmp2D E p y s (.ex zc zp zs) = .ex zc zp zs := rfl
@[simp] theorem cmp2D_s2 : cmp2D E p y s (.bad) = .bad := rfl
@[simp] theorem cmp2C_s0 : cmp2C E p c y s (some (.shr (.bl true))) = cmp2D E p y s (evPp E c s) := rfl
@[simp] theorem cmp2C_s1 : cmp2C E p c y s (some (.shr (.bl false))) = .ok (.shr (.bl false)) s := rfl
@[simp] theorem cmp2B_s0 : cmp2B E o p c x (.ok y s2) = cmp2C E p c y s2 ((s2.looks [x, y]).bind (opSem o)) := rfl
@[simp] theorem cmp2B_s1 : cmp2B E o p c x (.ex zc zp zs) = .ex zc zp zs := rfl
@[simp] theorem cmp2B_s2 : cmp2B E o p c x (.bad) = .bad := rfl
@[simp] theorem cmp2A_s0 : cmp2A E o p b c (.ok x s1) = cmp2B E o p c x (evPp E b s1) := rfl
@[simp] theorem cmp2A_s1 : cmp2A E o p b c (.ex zc zp zs) = .ex zc zp zs := rfl
@[simp] theorem cmp2A_s2 : cmp2A E o p b c (.bad) = .bad := rfl
@[simp] theorem andK_s0 : andK E b (.ok (.shr (.bl c)) s1) = if c = true then evX E b s1 else .ok (.shr (.bl false)) s1 := rfl
@[simp] theorem andK_s1 : andK E b (.ex zc zp zs) = .ex zc zp zs := rfl
@[simp] theorem orK_s0 : orK E b (.ok (.shr (.bl c)) s1) = if c = true then .ok (.shr (.bl true)) s1 else evX E b s1 := rfl
@[simp] theorem orK_s1 : orK E b (.ex zc zp zs) = .ex zc zp zs := rfl
@[simp] theorem notK_s0 : notK  (.ok (.shr (.bl b)) s1) = .ok (.shr (.bl (!b))) s1 := rfl
@[simp] theorem notK_s1 : notK  (.ex zc zp zs) = .ex zc zp zs := rfl
@[simp] theorem iteK_s0 : iteK E a b (.ok c s1) = if c = true then evX E a s1 else evX E b s1 := rfl
@[simp] theorem iteK_s1 : iteK E a b (.ex zc zp zs) = .ex zc zp zs := rfl
@[simp] theorem iteK_s2 : iteK E a b (.bad) = .bad := rfl
@[simp] theorem sl3C_s0 : sl3C i p (.ok r s3) = match s3.look p, s3.look r with
      | some d, some (.int j) => .opt s3 (slS (some i) (some j) d)
      | _, _ => .bad := rfl
@[simp] theorem sl3C_s1 : sl3C i p (.ex zc zp zs) = .ex zc zp zs := rfl
@[simp] theorem sl3C_s2 : sl3C i p (.bad) = .bad := rfl
@[simp] theorem sl3B_s0 : sl3B E c p (.ok q s2) = match s2.look q with
    | some (.int i) => sl3C i p (evPp E c s2)
    | _ => .bad := rfl
@[simp] theorem sl3B_s1 : sl3B E c p (.ex zc zp zs) = .ex zc zp zs := rfl
@[simp] theorem sl3B_s2 : sl3B E c p (.bad) = .bad := rfl
@[simp] theorem sl3A_s0 : sl3A E b c (.ok p s1) = sl3B E c p (evPp E b s1) := rfl
@[simp] theorem sl3A_s1 : sl3A E b c (.ex zc zp zs) = .ex zc zp zs := rfl
@[simp] theorem sl3A_s2 : sl3A E b c (.bad) = .bad := rfl
@[simp] theorem bmB_s0 : bmB m p (.ok ps s2) = match s2.look p, s2.looks ps with
        | some d, some ds => .opt s2 (bmSem m d ds)
        | _, _ => .bad := rfl
@[simp] theorem bmB_s1 : bmB m p (.ex zc zp zs) = .ex zc zp zs := rfl
@[simp] theorem bmB_s2 : bmB m p (.bad) = .bad := rfl
@[simp] theorem bmA_s0 : bmA E m xs (.ok p s1) = match s1.look p with
    | some d => if bmTy m d = true then bmB m p (evPs E xs s1) else .bad
    | none => .bad := rfl
@[simp] theorem bmA_s1 : bmA E m xs (.ex zc zp zs) = .ex zc zp zs := rfl
@[simp] theorem bmA_s2 : bmA E m xs (.bad) = .bad := rfl
@[simp] theorem callK_s0 : callK E f ms (.ok ps s1) = callRun E f ms ps s1 := rfl
@[simp] theorem callK_s1 : callK E f ms (.ex zc zp zs) = .ex zc zp zs := rfl
@[simp] theorem callK_s2 : callK E f ms (.bad) = .bad := rfl
@[simp] theorem mutB_s0 : mutB i s1 (some (d, r)) = match s1.store i d with
        | some s2 => .ok (.shr r) s2
        | none => .bad := rfl
@[simp] theorem mutB_s1 : mutB i s1 none = .bad := rfl
@[simp] theorem mutA_s0 : mutA m i (.ok ds s1) = mutB i s1 ((s1.look (.at i)).bind fun d => muSem m d ds) := rfl
@[simp] theorem mutA_s1 : mutA m i (.ex zc zp zs) = .ex zc zp zs := rfl
@[simp] theorem mutA_s2 : mutA m i (.bad) = .bad := rfl
@[simp] theorem compE_s0 : compE w (.ok v s3) = match v.d with
              | some d => .ok (some d) (s3.wipe w)
              | none => .bad := rfl
@[simp] theorem compE_s1 : compE w (.ex zc zp zs) = .ex zc zp zs := rfl
@[simp] theorem compE_s2 : compE w (.bad) = .bad := rfl
@[simp] theorem compT_s0 : compT E e w (.ok c s2) = if c = true then compE w (evX E e s2) else .ok none (s2.wipe w) := rfl
@[simp] theorem compT_s1 : compT E e w (.ex zc zp zs) = .ex zc zp zs := rfl
@[simp] theorem compT_s2 : compT E e w (.bad) = .bad := rfl
@[simp] theorem compG_s0 : compG E t e w none = .bad := rfl
@[simp] theorem compG_s1 : compG E t e w (some s') = compT E e w (evT E t s') := rfl
@[simp] theorem compZ_s0 : compZ s1 w (.ok acc s2) = .ok (.own (.lst acc)) (s1.restore s2 w) := rfl
@[simp] theorem compZ_s1 : compZ s1 w (.ex zc zp zs) = .ex zc zp zs := rfl
@[simp] theorem compZ_s2 : compZ s1 w (.bad) = .bad := rfl
@[simp] theorem compI_s0 : compI E w tg t e ps ds s1 none = .bad := rfl
@[simp] theorem compI_s1 : compI E w tg t e ps ds s1 (some items) = compZ s1 w (compRun (compStep E w tg t e) (looksB ps ds) items [] (s1.wipe w)) := rfl
@[simp] theorem compL_s0 : compL E w tg it t e ps s1 none = .bad := rfl
@[simp] theorem compL_s1 : compL E w tg it t e ps s1 (some ds) = compI E w tg t e ps ds s1 (itSem it ds) := rfl
@[simp] theorem compA_s0 : compA E w tg it t e (.ok ps s1) = compL E w tg it t e ps s1 (s1.looks ps) := rfl
@[simp] theorem compA_s1 : compA E w tg it t e (.ex zc zp zs) = .ex zc zp zs := rfl
@[simp] theorem compA_s2 : compA E w tg it t e (.bad) = .bad := rfl
@[simp] theorem psB_s0 : psB p (.ok ps s2) = .ok (p :: ps) s2 := rfl
@[simp] theorem psB_s1 : psB p (.ex zc zp zs) = .ex zc zp zs := rfl
@[simp] theorem psB_s2 : psB p (.bad) = .bad := rfl
@[simp] theorem psA_s0 : psA E xs (.ok p s1) = psB p (evPs E xs s1) := rfl
@[simp] theorem psA_s1 : psA E xs (.ex zc zp zs) = .ex zc zp zs := rfl
@[simp] theorem psA_s2 : psA E xs (.bad) = .bad := rfl
@[simp] theorem msB_s0 : msB d (.ok ds s2) = .ok (d :: ds) s2 := rfl
@[simp] theorem msB_s1 : msB d (.ex zc zp zs) = .ex zc zp zs := rfl
@[simp] theorem msB_s2 : msB d (.bad) = .bad := rfl
@[simp] theorem msA_s0 : msA E xs (.ok v s1) = match v.d with
    | some d => msB d (evMs E xs s1)
    | none => .bad := rfl
@[simp] theorem msA_s1 : msA E xs (.ex zc zp zs) = .ex zc zp zs := rfl
@[simp] theorem msA_s2 : msA E xs (.bad) = .bad := rfl
@[simp] theorem tIsN_s0 : tIsN n (.ok p s1) = .opt s1 ((s1.look p).map fun d => if n = true then !decide (d = .non) else decide (d = .non)) := rfl
@[simp] theorem tIsN_s1 : tIsN n (.ex zc zp zs) = .ex zc zp zs := rfl
@[simp] theorem tIsN_s2 : tIsN n (.bad) = .bad := rfl
@[simp] theorem tX_s0 : tX  (.ok p s1) = .opt s1 ((s1.look p).bind D.truth) := rfl
@[simp] theorem tX_s1 : tX  (.ex zc zp zs) = .ex zc zp zs := rfl
@[simp] theorem tX_s2 : tX  (.bad) = .bad := rfl
@[simp] theorem tBl_s0 : tBl s (some (.shr (.bl b))) = .ok b s := rfl
@[simp] theorem tCmpB_s0 : tCmpB o x (.ok y s2) = tBl s2 ((s2.looks [x, y]).bind (opSem o)) := rfl
@[simp] theorem tCmpB_s1 : tCmpB o x (.ex zc zp zs) = .ex zc zp zs := rfl
@[simp] theorem tCmpB_s2 : tCmpB o x (.bad) = .bad := rfl
@[simp] theorem tCmpA_s0 : tCmpA E o b (.ok x s1) = tCmpB o x (evPp E b s1) := rfl
@[simp] theorem tCmpA_s1 : tCmpA E o b (.ex zc zp zs) = .ex zc zp zs := rfl
@[simp] theorem tCmpA_s2 : tCmpA E o b (.bad) = .bad := rfl
@[simp] theorem t2D_s0 : t2D p y (.ok z s3) = tBl s3 ((s3.looks [y, z]).bind (opSem p)) := rfl
@[simp] theorem t2D_s1 : t2D p y (.ex zc zp zs) = .ex zc zp zs := rfl
@[simp] theorem t2D_s2 : t2D p y (.bad) = .bad := rfl
@[simp] theorem t2C_s0 : t2C E p c y s (some (.shr (.bl b))) = if b = true then t2D p y (evPp E c s) else .ok false s := rfl
@[simp] theorem t2B_s0 : t2B E o p c x (.ok y s2) = t2C E p c y s2 ((s2.looks [x, y]).bind (opSem o)) := rfl
@[simp] theorem t2B_s1 : t2B E o p c x (.ex zc zp zs) = .ex zc zp zs := rfl
@[simp] theorem t2B_s2 : t2B E o p c x (.bad) = .bad := rfl
@[simp] theorem t2A_s0 : t2A E o p b c (.ok x s1) = t2B E o p c x (evPp E b s1) := rfl
@[simp] theorem t2A_s1 : t2A E o p b c (.ex zc zp zs) = .ex zc zp zs := rfl
@[simp] theorem t2A_s2 : t2A E o p b c (.bad) = .bad := rfl
@[simp] theorem tAndK_s0 : tAndK E b (.ok c s1) = if c = true then evT E b s1 else .ok false s1 := rfl
@[simp] theorem tAndK_s1 : tAndK E b (.ex zc zp zs) = .ex zc zp zs := rfl
@[simp] theorem tAndK_s2 : tAndK E b (.bad) = .bad := rfl
@[simp] theorem tOrK_s0 : tOrK E b (.ok c s1) = if c = true then .ok true s1 else evT E b s1 := rfl
@[simp] theorem tOrK_s1 : tOrK E b (.ex zc zp zs) = .ex zc zp zs := rfl
@[simp] theorem tOrK_s2 : tOrK E b (.bad) = .bad := rfl
@[simp] theorem tNotK_s0 : tNotK  (.ok c s1) = .ok (!c) s1 := rfl
@[simp] theorem tNotK_s1 : tNotK  (.ex zc zp zs) = .ex zc zp zs := rfl
@[simp] theorem tNotK_s2 : tNotK  (.bad) = .bad := rfl
@[simp] theorem it1_s0 : it1  (.ok p s1) = .ok [p] s1 := rfl
@[simp] theorem it1_s1 : it1  (.ex zc zp zs) = .ex zc zp zs := rfl
@[simp] theorem it1_s2 : it1  (.bad) = .bad := rfl
@[simp] theorem it2B_s0 : it2B p (.ok q s2) = .ok [p, q] s2 := rfl
@[simp] theorem it2B_s1 : it2B p (.ex zc zp zs) = .ex zc zp zs := rfl
@[simp] theorem it2B_s2 : it2B p (.bad) = .bad := rfl
@[simp] theorem it2_s0 : it2 E b (.ok p s1) = it2B p (evPp E b s1) := rfl
@[simp] theorem it2_s1 : it2 E b (.ex zc zp zs) = .ex zc zp zs := rfl
@[simp] theorem it2_s2 : it2 E b (.bad) = .bad := rfl
@[simp] theorem exprK_s0 : exprK  (.ok q1_ s1) = .nx s1 := rfl
@[simp] theorem exprK_s1 : exprK  (.ex zc zp zs) = .ex zc zp zs := rfl
@[simp] theorem exprK_s2 : exprK  (.bad) = .bad := rfl
@[simp] theorem setK_s0 : setK i (.ok v s1) = if i < s1.env.length then .nx (s1.put i v) else .bad := rfl
@[simp] theorem setK_s1 : setK i (.ex zc zp zs) = .ex zc zp zs := rfl
@[simp] theorem setK_s2 : setK i (.bad) = .bad := rfl
@[simp] theorem setfK_s0 : setfK i (.ok v s1) = match v.d with
    | some d => if i < s1.env.length then .nx (s1.put i (.shr d)) else .bad
    | none => .bad := rfl
@[simp] theorem setfK_s1 : setfK i (.ex zc zp zs) = .ex zc zp zs := rfl
@[simp] theorem setfK_s2 : setfK i (.bad) = .bad := rfl
@[simp] theorem nxO_s0 : nxO  (some s) = .nx s := rfl
@[simp] theorem nxO_s1 : nxO  none = .bad := rfl
@[simp] theorem asgK_s0 : asgK t (.ok v s1) = match v.d with
    | some d => nxO (S.asg t d s1)
    | none => .bad := rfl
@[simp] theorem asgK_s1 : asgK t (.ex zc zp zs) = .ex zc zp zs := rfl
@[simp] theorem asgK_s2 : asgK t (.bad) = .bad := rfl
@[simp] theorem retK_s0 : retK  (.ok v s1) = .rt v s1 := rfl
@[simp] theorem retK_s1 : retK  (.ex zc zp zs) = .ex zc zp zs := rfl
@[simp] theorem retK_s2 : retK  (.bad) = .bad := rfl
@[simp] theorem sixC_s0 : sixC i d s2 (some (.lst xs)) (some (.int j)) = match ixN xs.length j with
          | some n => nxO (s2.store i (.lst (xs.set n d)))
          | none => .bad := rfl
@[simp] theorem sixB_s0 : sixB i d (.ok p s2) = sixC i d s2 (s2.look (.at i)) (s2.look p) := rfl
@[simp] theorem sixB_s1 : sixB i d (.ex zc zp zs) = .ex zc zp zs := rfl
@[simp] theorem sixB_s2 : sixB i d (.bad) = .bad := rfl
@[simp] theorem sixA_s0 : sixA E i k (.ok v s1) = match v.d with
    | some d => match s1.slot i with
      | some _ => sixB i d (evPp E k s1)
      | none => .bad
    | none => .bad := rfl
@[simp] theorem sixA_s1 : sixA E i k (.ex zc zp zs) = .ex zc zp zs := rfl
@[simp] theorem sixA_s2 : sixA E i k (.bad) = .bad := rfl
@[simp] theorem ifK_s0 : ifK E a b w (.ok c s1) = if c = true then (exCs E a s1).wipe w else (exCs E b s1).wipe w := rfl
@[simp] theorem ifK_s1 : ifK E a b w (.ex zc zp zs) = .ex zc zp zs := rfl
@[simp] theorem ifK_s2 : ifK E a b w (.bad) = .bad := rfl
@[simp] theorem forG_s0 : forG E b none = .bad := rfl
@[simp] theorem forG_s1 : forG E b (some s') = exCs E b s' := rfl
@[simp] theorem forI_s0 : forI E tg b w ps ds s1 none = .bad := rfl
@[simp] theorem forI_s1 : forI E tg b w ps ds s1 (some items) = forRun (forStep E tg b) (looksB ps ds) w items s1 := rfl
@[simp] theorem forL_s0 : forL E tg it b w ps s1 none = .bad := rfl
@[simp] theorem forL_s1 : forL E tg it b w ps s1 (some ds) = forI E tg b w ps ds s1 (itSem it ds) := rfl
@[simp] theorem forF_s0 : forF E tg it b w none = .bad := rfl
@[simp] theorem forF_s1 : forF E tg it b w (some (ps, s1)) = forL E tg it b w ps s1 (s1.looks ps) := rfl
@[simp] theorem forA_s0 : forA E tg it b w (.ok ps0 s0) = forF E tg it b w (s0.fixes ps0) := rfl
@[simp] theorem forA_s1 : forA E tg it b w (.ex zc zp zs) = .ex zc zp zs := rfl
@[simp] theorem forA_s2 : forA E tg it b w (.bad) = .bad := rfl
@[simp] theorem tryH_s0 : tryH E c' p i h s1 (some true) = if (i.toList.all fun j => decide (j < s1.env.length)) = true then (exHs E.sub c' p h (s1.wipe i.toList)).wipeA i.toList else .bad := rfl
@[simp] theorem tryH_s1 : tryH E c' p i h s1 (some false) = .ex c' p s1 := rfl
@[simp] theorem tryH_s2 : tryH E c' p i h s1 none = .bad := rfl
@[simp] theorem tryK_s0 : tryK E c i h (.ex c' p s1) = tryH E c' p i h s1 (E.sub c' c) := rfl
@[simp] theorem seqK_s0 : seqK E cs (.nx s) = exCs E cs s := rfl
@[simp] theorem seqK_rt (E cs v s) : seqK E cs (.rt v s) = .rt v s := rfl
@[simp] theorem seqK_bk (E cs s) : seqK E cs (.bk s) = .bk s := rfl
@[simp] theorem seqK_ct (E cs s) : seqK E cs (.ct s) = .ct s := rfl
@[simp] theorem seqK_ex (E cs c p s) : seqK E cs (.ex c p s) = .ex c p s := rfl
@[simp] theorem seqK_bad (E cs) : seqK E cs .bad = .bad := rfl
@[simp] theorem tryK_nx (E c i h s) : tryK E c i h (.nx s) = .nx s := rfl
@[simp] theorem tryK_rt (E c i h v s) : tryK E c i h (.rt v s) = .rt v s := rfl
@[simp] theorem tryK_bk (E c i h s) : tryK E c i h (.bk s) = .bk s := rfl
@[simp] theorem tryK_ct (E c i h s) : tryK E c i h (.ct s) = .ct s := rfl
@[simp] theorem tryK_bad (E c i h) : tryK E c i h .bad = .bad := rfl
@[simp] theorem opt_smS {α} (a : α) (s : S) : Out.opt s (some a) = .ok a s := rfl
@[simp] theorem opt_nnS {α} (s : S) : (Out.opt s none : Out α) = .bad := rfl
@[simp] theorem wipe_nx (s : S) (w) : (O.nx s).wipe w = .nx (s.wipe w) := rfl
@[simp] theorem wipe_rt (v) (s : S) (w) : (O.rt v s).wipe w = .rt v s := rfl
@[simp] theorem wipe_bk (s : S) (w) : (O.bk s).wipe w = .bk s := rfl
@[simp] theorem wipe_ct (s : S) (w) : (O.ct s).wipe w = .ct s := rfl
@[simp] theorem wipe_ex (c p) (s : S) (w) : (O.ex c p s).wipe w = .ex c p s := rfl
@[simp] theorem wipe_bad (w) : (O.bad).wipe w = .bad := rfl
@[simp] theorem wipeA_nx (s : S) (w) : (O.nx s).wipeA w = .nx (s.wipe w) := rfl
@[simp] theorem wipeA_rt (v) (s : S) (w) : (O.rt v s).wipeA w = .rt v s := rfl
@[simp] theorem wipeA_bk (s : S) (w) : (O.bk s).wipeA w = .bk (s.wipe w) := rfl
@[simp] theorem wipeA_ct (s : S) (w) : (O.ct s).wipeA w = .ct (s.wipe w) := rfl
@[simp] theorem wipeA_ex (c p) (s : S) (w) : (O.ex c p s).wipeA w = .ex c p s := rfl
@[simp] theorem wipeA_bad (w) : (O.bad).wipeA w = .bad := rfl
@[simp] theorem swipe_nil (s : S) : s.wipe [] = s := rfl
@[simp] theorem swipe_cons (e b i is) : (S.mk e b).wipe (i :: is) = (S.mk (e.set i none) b).wipe is := rfl
@[simp] theorem SVd_shr (d) : (SV.shr d).d = some d := rfl
@[simp] theorem SVd_own (d) : (SV.own d).d = some d := rfl
@[simp] theorem data_shr (s : S) (d) : s.data (.shr d) = some d := rfl
@[simp] theorem data_own (s : S) (d) : s.data (.own d) = some d := rfl
@[simp] theorem data_bor (s : S) (k) : s.data (.bor k) = s.bs[k]? := rfl
@[simp] theorem put_mk (e b i v) : (S.mk e b).put i v = ⟨e.set i (some v), b⟩ := rfl
@[simp] theorem look_val (s : S) (d) : s.look (.val d) = some d := rfl
@[simp] theorem look_at (s : S) (i) : s.look (.at i) = (s.slot i).bind s.data := rfl
@[simp] theorem look_br (s : S) (k) : s.look (.br k) = s.bs[k]? := rfl
@[simp] theorem fix_val (s : S) (d) : s.fix (.val d) = some (.val d, s) := rfl
@[simp] theorem fix_br (s : S) (d) : s.fix (.br d) = some (.br d, s) := rfl
@[simp] theorem fix_at (s : S) (i) : s.fix (.at i) = match s.slot i with
    | some (.shr d) => some (.val d, s)
    | some (.own d) => some (.val d, s.put i (.shr d))
    | some (.bor k) => some (.br k, s)
    | none => none := rfl
@[simp] theorem fixes_nil (s : S) : s.fixes [] = some ([], s) := rfl
@[simp] theorem fixes_cons (s : S) (p ps) : s.fixes (p :: ps) = match s.fix p with
    | none => none
    | some (q, s1) => match s1.fixes ps with
      | none => none
      | some (qs, s2) => some (q :: qs, s2) := rfl
@[simp] theorem looks_nil (s : S) : s.looks [] = some [] := rfl
@[simp] theorem looks_cons (s : S) (p ps) : s.looks (p :: ps) = (s.look p).bind fun d => (s.looks ps).map fun ds => d :: ds := rfl
@[simp] theorem slot_mk (e b i) : (S.mk e b).slot i = (e[i]?).bind id := rfl
@[simp] theorem asg_nm (i d s) : S.asg (.nm i) d s = some (s.put i (.shr d)) := rfl
@[simp] theorem asg_tup (ts ds s) : S.asg (.tup ts) (.tup ds) s = S.asgs ts ds s := rfl
@[simp] theorem asgs_nil (s) : S.asgs [] [] s = some s := rfl
@[simp] theorem asgs_cons (t ts d ds s) : S.asgs (t :: ts) (d :: ds) s = (S.asg t d s).bind fun s' => S.asgs ts ds s' := rfl
@[simp] theorem forRun_nil (b ok w s) : forRun b ok w [] s = if ok s = true then .nx (s.wipe w) else .bad := rfl
theorem forRun_cons (b ok w d ds s) : forRun b ok w (d :: ds) s = if ok s = true then loopNext (forRun b ok w ds) w (b (s.wipe w) d) else .bad := rfl
@[simp] theorem loopNext_nx (k w s) : loopNext k w (.nx s) = k s := rfl
@[simp] theorem loopNext_ct (k w s) : loopNext k w (.ct s) = k s := rfl
@[simp] theorem loopNext_bk (k w s) : loopNext k w (.bk s) = .nx (s.wipe w) := rfl
@[simp] theorem loopNext_rt (k w v s) : loopNext k w (.rt v s) = .rt v s := rfl
@[simp] theorem loopNext_ex (k w c p s) : loopNext k w (.ex c p s) = .ex c p s := rfl
@[simp] theorem loopNext_bad (k w) : loopNext k w .bad = .bad := rfl
@[simp] theorem compRun_nil (b ok acc s) : compRun b ok [] acc s = if ok s = true then .ok acc s else .bad := rfl
theorem compRun_cons (b ok d ds acc s) : compRun b ok (d :: ds) acc s = if ok s = true then compNext (compRun b ok ds) acc (b s d) else .bad := rfl
@[simp] theorem compNext_some (k acc e s) : compNext k acc (.ok (some e) s) = if acc.length < lim then k (acc ++ [e]) s else .bad := rfl
@[simp] theorem compNext_none (k acc s) : compNext k acc (.ok none s) = k acc s := rfl
@[simp] theorem whileRun_zero (c b w s) : whileRun c b w 0 s = .bad := rfl
theorem whileRun_succ (c b w n s) : whileRun c b w (n + 1) s = (c (s.wipe w)).to fun d s1 => if d = true then loopNext (whileRun c b w n) w (b s1) else .nx (s1.wipe w) := rfl
@[simp] theorem slS_lst (lo hi xs) : slS lo hi (.lst xs) = some (.own (.lst (cutG xs lo hi))) := rfl
@[simp] theorem slS_tup (lo hi xs) : slS lo hi (.tup xs) = some (.shr (.tup (cutG xs lo hi))) := rfl
@[simp] theorem inS_lst (d xs) : inS d (.lst xs) = D.isinL d xs := rfl
theorem ltS_lst (xs ys) : ltS (.lst xs) (.lst ys) = if D.cmpq (.lst xs) (.lst ys) = true then some (PySem.W.dataLt (D.py (.lst xs)) (D.py (.lst ys))) else none := rfl
theorem ltS_tup (xs ys) : ltS (.tup xs) (.tup ys) = if D.cmpq (.tup xs) (.tup ys) = true then some (PySem.W.dataLt (D.py (.tup xs)) (D.py (.tup ys))) else none := rfl
theorem leS_lst (xs ys) : leS (.lst xs) (.lst ys) = if D.cmpq (.lst xs) (.lst ys) = true then some (!PySem.W.dataLt (D.py (.lst ys)) (D.py (.lst xs))) else none := rfl
theorem leS_tup (xs ys) : leS (.tup xs) (.tup ys) = if D.cmpq (.tup xs) (.tup ys) = true then some (!PySem.W.dataLt (D.py (.tup ys)) (D.py (.tup xs))) else none := rfl
@[simp] theorem inS_tup (d xs) : inS d (.tup xs) = D.isin d xs := rfl
@[simp] theorem inS_str (y z) : inS (.str y) (.str z) = some (!(Builtin.Str.occurrences z y 0 z.length 1).isEmpty) := rfl
@[simp] theorem mk_env (e b) : (S.mk e b).env = e := rfl
@[simp] theorem mk_bs (e b) : (S.mk e b).bs = b := rfl
@[simp] theorem restore_mk (e b e' b' is) : (S.mk e b).restore (S.mk e' b') is = ⟨is.foldl (fun x i => x.set i (match e[i]? with | some (some (.shr d)) => some (.shr d) | _ => none)) e', b'⟩ := rfl
@[simp] theorem store_mk (e b i d) : (S.mk e b).store i d = match (e[i]?).bind id with
  | some (.own _) => some ⟨e.set i (some (.own d)), b⟩
  | some (.bor k) => some ⟨e, b.set k d⟩
  | _ => none := rfl
@[simp] theorem mutb_mk (e b i) : (S.mk e b).mutb i = match (e[i]?).bind id with
  | some (.own _) => true | some (.bor _) => true | _ => false := rfl
@[simp] theorem args_nil (s : S) : s.args [] [] = some [] := rfl
@[simp] theorem args_val (s : S) (ms p ps) : s.args (false :: ms) (p :: ps) = (s.look p).bind fun d => (s.args ms ps).map fun as => .val d :: as := by cases p <;> rfl
@[simp] theorem args_bor (s : S) (ms i ps) : s.args (true :: ms) (.at i :: ps) = if s.mutb i = true then (s.look (.at i)).bind fun d => (s.args ms ps).map fun as => .bor d :: as else none := rfl
@[simp] theorem borPs_nil : borPs [] [] = [] := rfl
@[simp] theorem borPs_t (ms i ps) : borPs (true :: ms) (.at i :: ps) = i :: borPs ms ps := rfl
@[simp] theorem borPs_f (ms p ps) : borPs (false :: ms) (p :: ps) = borPs ms ps := by cases p <;> rfl
@[simp] theorem valPs_nil : valPs [] [] = [] := rfl
@[simp] theorem valPs_t (ms p ps) : valPs (true :: ms) (p :: ps) = valPs ms ps := rfl
@[simp] theorem valPs_f (ms p ps) : valPs (false :: ms) (p :: ps) = p :: valPs ms ps := rfl
@[simp] theorem atsOf_nil : atsOf [] = [] := rfl
@[simp] theorem atsOf_at (i ps) : atsOf (.at i :: ps) = i :: atsOf ps := rfl
@[simp] theorem atsOf_val (i ps) : atsOf (.val i :: ps) = atsOf ps := rfl
@[simp] theorem atsOf_br (i ps) : atsOf (.br i :: ps) = atsOf ps := rfl
@[simp] theorem stores_nil (s : S) : s.stores [] [] = some s := rfl
@[simp] theorem stores_cons (s : S) (i is d ds) : s.stores (i :: is) (d :: ds) = (s.store i d).bind fun s' => s'.stores is ds := rfl
@[simp] theorem moves_nil (s : S) : s.moves [] = some s := rfl
@[simp] theorem moves_val (s : S) (d ps) : s.moves (.val d :: ps) = s.moves ps := rfl
@[simp] theorem moves_at (s : S) (i ps) : s.moves (.at i :: ps) = match s.move i with
    | some (_, s') => s'.moves ps
    | none => none := rfl
@[simp] theorem move_mk (e b i) : (S.mk e b).move i = match (e[i]?).bind id with
  | some (.shr d) => some (d, ⟨e, b⟩)
  | some (.own d) => some (d, ⟨e.set i (some (.shr d)), b⟩)
  | _ => none := rfl
/-- a call: what comes back -/
def callR (ms : List Bool) (ps : List PV) (s : S) : OF → Out SV
  | .ret v bs => if (v.flat && bs.all D.flat1) = true then match s.stores (borPs ms ps) bs with
          | none => .bad
          | some s1 => .ok v s1
        else match s.moves (valPs ms ps) with
          | none => .bad
          | some s1 => match s1.stores (borPs ms ps) bs with
            | none => .bad
            | some s2 => .ok v s2
  | .ex c p bs => if (p.isEmpty && bs.all D.flat1) = true then match s.stores (borPs ms ps) bs with
          | none => .bad
          | some s1 => .ex c p s1
        else match s.moves (valPs ms ps) with
          | none => .bad
          | some s1 => match s1.stores (borPs ms ps) bs with
            | none => .bad
            | some s2 => .ex c p s2
  | .bad => .bad
def callQ (E : Env) (f : Nat) (ms : List Bool) (ps : List PV) (s : S) : Option (List Arg) → Out SV
  | none => .bad
  | some as => if (decide (borPs ms ps).Nodup && (atsOf (valPs ms ps)).all fun i => decide (i ∉ borPs ms ps)) = true then callR ms ps s (E.cl f as) else .bad
@[simp] theorem callRun_k (E f ms ps s) : callRun E f ms ps s = callQ E f ms ps s (s.args ms ps) := by
  unfold callRun
  cases s.args ms ps with
  | none => rfl
  | some as =>
    show (if _ then _ else _) = if _ then _ else _
    split
    · cases E.cl f as <;> rfl
    · rfl
@[simp] theorem callQ_some (E f ms ps s as) : callQ E f ms ps s (some as) = if (decide (borPs ms ps).Nodup && (atsOf (valPs ms ps)).all fun i => decide (i ∉ borPs ms ps)) = true then callR ms ps s (E.cl f as) else .bad := rfl
/-- what came back is put where it was lent -/
def stK (v : SV) : Option S → Out SV
  | none => .bad
  | some s1 => .ok v s1
def mvK (v : SV) (is : List Nat) (bs : List D) : Option S → Out SV
  | none => .bad
  | some s1 => stK v (s1.stores is bs)
def callF (fl : Bool) (ms : List Bool) (ps : List PV) (s : S) (v : SV) (bs : List D) : Out SV := match fl with
  | true => stK v (s.stores (borPs ms ps) bs)
  | false => mvK v (borPs ms ps) bs (s.moves (valPs ms ps))
@[simp] theorem stK_s (v s) : stK v (some s) = .ok v s := rfl
@[simp] theorem mvK_s (v is bs s) : mvK v is bs (some s) = stK v (s.stores is bs) := rfl
@[simp] theorem callF_t (ms ps s v bs) : callF true ms ps s v bs = stK v (s.stores (borPs ms ps) bs) := rfl
@[simp] theorem callF_f (ms ps s v bs) : callF false ms ps s v bs = mvK v (borPs ms ps) bs (s.moves (valPs ms ps)) := rfl
@[simp] theorem callF_any (fl ms ps s v bs) (h : s.moves (valPs ms ps) = some s) : callF fl ms ps s v bs = stK v (s.stores (borPs ms ps) bs) := by
  cases fl with
  | true => rfl
  | false => show mvK v _ bs (s.moves (valPs ms ps)) = _; rw [h]; rfl
@[simp] theorem callR_ret (ms ps s v bs) : callR ms ps s (.ret v bs) = callF (v.flat && bs.all D.flat1) ms ps s v bs := by
  show (if (v.flat && bs.all D.flat1) = true then _ else _) = _
  cases h : (v.flat && bs.all D.flat1) with
  | true =>
    rw [if_pos rfl, callF_t]
    cases s.stores (borPs ms ps) bs <;> rfl
  | false =>
    rw [if_neg Bool.false_ne_true, callF_f]
    cases s.moves (valPs ms ps) with
    | none => rfl
    | some s1 => show (match s1.stores (borPs ms ps) bs with | none => _ | some s2 => _) = stK v (s1.stores (borPs ms ps) bs); cases s1.stores (borPs ms ps) bs <;> rfl
def stX (c : Nat) (p : List (Str × D)) : Option S → Out SV
  | none => .bad
  | some s1 => .ex c p s1
@[simp] theorem stX_s (c p s) : stX c p (some s) = .ex c p s := rfl
@[simp] theorem callR_ex0 (ms ps s c) : callR ms ps s (.ex c [] []) = stX c [] (s.stores (borPs ms ps) []) := by
  show (match s.stores (borPs ms ps) [] with | none => Out.bad | some s1 => Out.ex c [] s1) = _
  cases s.stores (borPs ms ps) [] <;> rfl
@[simp] theorem callR_ex1 (ms ps s c p b bs) : callR ms ps s (.ex c p (b :: bs)) = if (p.isEmpty && (b :: bs).all D.flat1) = true then stX c p (s.stores (borPs ms ps) (b :: bs)) else match s.moves (valPs ms ps) with
    | none => .bad
    | some s1 => stX c p (s1.stores (borPs ms ps) (b :: bs)) := by
  unfold callR
  simp only
  split
  · cases s.stores (borPs ms ps) (b :: bs) <;> rfl
  · cases s.moves (valPs ms ps) with
    | none => rfl
    | some s1 => simp only; cases s1.stores (borPs ms ps) (b :: bs) <;> rfl
@[simp] theorem flat_shr (d) : (SV.shr d).flat = d.flat := rfl
@[simp] theorem flat_own (d) : (SV.own d).flat = d.flat1 := rfl
@[simp] theorem flat_int (i) : (D.int i).flat = true := rfl
@[simp] theorem flat_str (i) : (D.str i).flat = true := rfl
@[simp] theorem flat_bl (i) : (D.bl i).flat = true := rfl
@[simp] theorem flat_non : (D.non).flat = true := rfl
@[simp] theorem flat_lst (xs) : (D.lst xs).flat = false := rfl
@[simp] theorem flat_tup (xs) : (D.tup xs).flat = false := rfl
@[simp] theorem flat1_lst (xs) : (D.lst xs).flat1 = xs.all D.flat := rfl
@[simp] theorem flat_ints (is : List Int) : ((is.map D.int).all D.flat) = true := by simp
@[simp] theorem init_mk (I : FI) (as) : I.init as = ⟨initEnv as 0 ++ List.replicate (I.N.length - as.length) none, initBs as⟩ := rfl
@[simp] theorem initEnv_nil (k) : initEnv [] k = [] := rfl
@[simp] theorem initEnv_val (d as k) : initEnv (.val d :: as) k = some (.shr d) :: initEnv as k := rfl
@[simp] theorem initEnv_bor (d as k) : initEnv (.bor d :: as) k = some (.bor k) :: initEnv as (k + 1) := rfl
@[simp] theorem initBs_nil : initBs [] = [] := rfl
@[simp] theorem initBs_val (d as) : initBs (.val d :: as) = initBs as := rfl
@[simp] theorem initBs_bor (d as) : initBs (.bor d :: as) = d :: initBs as := rfl
@[simp] theorem arg_val (d) : (Arg.val d).m = false := rfl
@[simp] theorem arg_bor (d) : (Arg.bor d).m = true := rfl
@[simp] theorem fn_nx (s) : (O.nx s).fn = .ret (.shr .non) s.bs := rfl
@[simp] theorem fn_shr (d s) : (O.rt (.shr d) s).fn = .ret (.shr d) s.bs := rfl
@[simp] theorem fn_own (d s) : (O.rt (.own d) s).fn = .ret (.own d) s.bs := rfl
@[simp] theorem fn_ex (c p s) : (O.ex c p s).fn = .ex c p s.bs := rfl
@[simp] theorem hs_nil (sub c p s) : exHs sub c p [] s = .nx s := rfl
@[simp] theorem hs_cons (sub c p h hs s) : exHs sub c p (h :: hs) s = (exH sub c p h s).bind fun s1 => exHs sub c p hs s1 := rfl
@[simp] theorem obind_nx (s : S) (f : S → O) : (O.nx s).bind f = f s := rfl
@[simp] theorem obind_rt (v) (s : S) (f : S → O) : (O.rt v s).bind f = .rt v s := rfl
@[simp] theorem obind_bk (s : S) (f : S → O) : (O.bk s).bind f = .bk s := rfl
@[simp] theorem obind_ct (s : S) (f : S → O) : (O.ct s).bind f = .ct s := rfl
@[simp] theorem obind_bad (f : S → O) : (O.bad).bind f = .bad := rfl
@[simp] theorem compG_none' (E t e w) : compG E t e w none = .bad := rfl
theorem step_k (E w tg t e s d) : compStep E w tg t e s d = compG E t e w (S.asg tg d s) := rfl
theorem fstep_k (E tg b s d) : forStep E tg b s d = forG E b (S.asg tg d s) := rfl
theorem looksB_k (ps ds s) : looksB ps ds s = decide (s.looks ps = some ds) := rfl
end Den
namespace Den
@[simp] theorem seqK_nil (E o) : seqK E [] o = o := by cases o <;> rfl
@[simp] theorem mulG_r (i j : Int) (h : -(2 ^ 64) < j ∧ j < 2 ^ 64) : mulG i j = true := decide_eq_true (.inr h)
@[simp] theorem mulG_l (i j : Int) (h : -(2 ^ 64) < i ∧ i < 2 ^ 64) : mulG i j = true := decide_eq_true (.inl h)
@[simp] theorem divG_lit (j : Int) (h : 0 < j ∧ j < 1073741824) : divG j = true := decide_eq_true h
end Den
namespace Den
open PySem
@[simp] theorem isD_non_bool : isD .non "bool" = some false := by rfl
@[simp] theorem isD_non_int : isD .non "int" = some false := by rfl
@[simp] theorem isD_non_str : isD .non "str" = some false := by rfl
@[simp] theorem isD_non_tuple : isD .non "tuple" = some false := by rfl
@[simp] theorem isD_non_list : isD .non "list" = some false := by rfl
@[simp] theorem isD_bl_bool (x : Bool) : isD (.bl x) "bool" = some true := by rfl
@[simp] theorem isD_bl_int (x : Bool) : isD (.bl x) "int" = some true := by rfl
@[simp] theorem isD_bl_str (x : Bool) : isD (.bl x) "str" = some false := by rfl
@[simp] theorem isD_bl_tuple (x : Bool) : isD (.bl x) "tuple" = some false := by rfl
@[simp] theorem isD_bl_list (x : Bool) : isD (.bl x) "list" = some false := by rfl
@[simp] theorem isD_int_bool (x : Int) : isD (.int x) "bool" = some false := by rfl
@[simp] theorem isD_int_int (x : Int) : isD (.int x) "int" = some true := by rfl
@[simp] theorem isD_int_str (x : Int) : isD (.int x) "str" = some false := by rfl
@[simp] theorem isD_int_tuple (x : Int) : isD (.int x) "tuple" = some false := by rfl
@[simp] theorem isD_int_list (x : Int) : isD (.int x) "list" = some false := by rfl
@[simp] theorem isD_str_bool (x : Str) : isD (.str x) "bool" = some false := by rfl
@[simp] theorem isD_str_int (x : Str) : isD (.str x) "int" = some false := by rfl
@[simp] theorem isD_str_str (x : Str) : isD (.str x) "str" = some true := by rfl
@[simp] theorem isD_str_tuple (x : Str) : isD (.str x) "tuple" = some false := by rfl
@[simp] theorem isD_str_list (x : Str) : isD (.str x) "list" = some false := by rfl
@[simp] theorem isD_lst_bool (x : List D) : isD (.lst x) "bool" = some false := by rfl
@[simp] theorem isD_lst_int (x : List D) : isD (.lst x) "int" = some false := by rfl
@[simp] theorem isD_lst_str (x : List D) : isD (.lst x) "str" = some false := by rfl
@[simp] theorem isD_lst_tuple (x : List D) : isD (.lst x) "tuple" = some false := by rfl
@[simp] theorem isD_lst_list (x : List D) : isD (.lst x) "list" = some true := by rfl
@[simp] theorem isD_tup_bool (x : List D) : isD (.tup x) "bool" = some false := by rfl
@[simp] theorem isD_tup_int (x : List D) : isD (.tup x) "int" = some false := by rfl
@[simp] theorem isD_tup_str (x : List D) : isD (.tup x) "str" = some false := by rfl
@[simp] theorem isD_tup_tuple (x : List D) : isD (.tup x) "tuple" = some true := by rfl
@[simp] theorem isD_tup_list (x : List D) : isD (.tup x) "list" = some false := by rfl
@[simp] theorem isD_dic_bool (x y : List D) : isD (.dic x y) "bool" = some false := by rfl
@[simp] theorem isD_dic_int (x y : List D) : isD (.dic x y) "int" = some false := by rfl
@[simp] theorem isD_dic_str (x y : List D) : isD (.dic x y) "str" = some false := by rfl
@[simp] theorem isD_dic_tuple (x y : List D) : isD (.dic x y) "tuple" = some false := by rfl
@[simp] theorem isD_dic_list (x y : List D) : isD (.dic x y) "list" = some false := by rfl
end Den
namespace Den
open PySem L2
def hRet : Option (D × S) → O
  | some (d, s1) => .rt (.shr d) s1
  | none => .bad
def hSet (i : Nat) : Option (D × S) → O
  | some (d, s1) => if i < s1.env.length then .nx (s1.put i (.shr d)) else .bad
  | none => .bad
@[simp] theorem hRet_s (d s) : hRet (some (d, s)) = .rt (.shr d) s := rfl
@[simp] theorem hSet_s (i d s) : hSet i (some (d, s)) = if i < s.env.length then .nx (s.put i (.shr d)) else .bad := rfl
section
variable (sub : Nat → Nat → Option Bool) (c : Nat) (p : List (Str × D)) (s : S)
@[simp] theorem exH_pass : exH sub c p .pass s = .nx s := rfl
@[simp] theorem exH_brk : exH sub c p .brk s = .bk s := rfl
@[simp] theorem exH_cont : exH sub c p .cont s = .ct s := rfl
@[simp] theorem exH_retn : exH sub c p .retn s = .rt (.shr .non) s := rfl
@[simp] theorem exH_ret (x) : exH sub c p (.ret x) s = hRet (evHX sub c p x s) := by
  show (match evHX sub c p x s with | some (d, s1) => O.rt (.shr d) s1 | none => .bad) = _
  cases evHX sub c p x s <;> rfl
@[simp] theorem exH_set (i x) : exH sub c p (.set i x) s = hSet i (evHX sub c p x s) := by
  show (match evHX sub c p x s with | some (d, s1) => if i < s1.env.length then O.nx (s1.put i (.shr d)) else .bad | none => .bad) = _
  cases evHX sub c p x s <;> rfl
@[simp] theorem exH_iff (b h g) : exH sub c p (.iff b h g) s = if p.isEmpty = true then match evBE sub c b with
    | some true => exHs sub c p h s
    | some false => exHs sub c p g s
    | none => .bad
    else .bad := rfl
@[simp] theorem evHX_lit (d) : evHX sub c p (.lit d) s = if d.flat = true then some (d, s) else none := rfl
@[simp] theorem evHX_var (i) : evHX sub c p (.var i) s = s.move i := rfl
@[simp] theorem evHX_be (b) : evHX sub c p (.be b) s = if p.isEmpty = true then (evBE sub c b).map fun b => (.bl b, s) else none := rfl
@[simp] theorem evBE_isc (k) : evBE sub c (.isc k) = sub c k := rfl
@[simp] theorem evBE_isv : evBE sub c .isv = (sub c c).map fun _ => true := rfl
@[simp] theorem evBE_not (a) : evBE sub c (.not a) = (evBE sub c a).map (!·) := rfl
@[simp] theorem evBE_and (a b) : evBE sub c (.and a b) = match evBE sub c a with
    | some true => evBE sub c b
    | o => o := rfl
@[simp] theorem evBE_or (a b) : evBE sub c (.or a b) = match evBE sub c a with
    | some false => evBE sub c b
    | o => o := rfl
@[simp] theorem evHX_inc (i k) : evHX sub c p (.inc i k) s = match s.look (.at i) with
    | some (.int j) => some (.int (j + k), s)
    | _ => none := rfl
@[simp] theorem evHX_tup (xs) : evHX sub c p (.tup xs) s = match evHXs sub c p xs s with
    | some (ds, s1) => if ds.length ≤ lim then some (.tup ds, s1) else none
    | none => none := rfl
@[simp] theorem evHXs_nil : evHXs sub c p [] s = some ([], s) := rfl
@[simp] theorem evHXs_cons (x xs) : evHXs sub c p (x :: xs) s = match evHX sub c p x s with
    | some (d, s1) => match evHXs sub c p xs s1 with
      | some (ds, s2) => some (d :: ds, s2)
      | none => none
    | none => none := rfl
end
end Den
namespace Den
@[simp] theorem le_lim (n : Nat) (h : n ≤ 1000000) : (n ≤ lim) = True := eq_true h
@[simp] theorem lt_lim (n : Nat) (h : n < 1000000) : (n < lim) = True := eq_true h
end Den
namespace Den
@[simp] theorem all_flat_ints (is : List Int) : is.all (D.flat ∘ D.int) = true := by
  induction is with
  | nil => rfl
  | cons i is ih => rw [List.all_cons, ih]; rfl
@[simp] theorem all_flat_nats (is : List Nat) (f : Nat → Int) : is.all (D.flat ∘ D.int ∘ f) = true := by
  induction is with
  | nil => rfl
  | cons i is ih => rw [List.all_cons, ih]; rfl
end Den

set_option Elab.async false
set_option linter.all false
set_option maxRecDepth 100000
set_option autoImplicit false
namespace Den
open PySem L2
/-! ### comprehensions -/
theorem compRun_pure {step : S → D → Out (Option D)} {ok : S → Bool} {s : S} {g : D → Option D} (hok : ok s = true) : ∀ {items acc : List D}, (∀ d ∈ items, step s d = .ok (g d) s) → acc.length + items.length ≤ lim → compRun step ok items acc s = .ok (acc ++ items.filterMap g) s
  | [], acc, _, _ => by simp [hok]
  | d :: ds, acc, h, hl => by
    rw [compRun_cons, if_pos hok, h d List.mem_cons_self]
    cases hg : g d with
    | none =>
      rw [compNext_none, compRun_pure hok (fun d hd => h d (List.mem_cons_of_mem _ hd)) (by simp at hl; omega)]
      simp [hg]
    | some e =>
      rw [compNext_some, if_pos (by simp at hl; omega), compRun_pure hok (fun d hd => h d (List.mem_cons_of_mem _ hd)) (by simp at hl ⊢; omega)]
      simp [hg]
/-- one value for each item -/
theorem compRun_map {step : S → D → Out (Option D)} {ok : S → Bool} {s : S} {g : D → D} (hok : ok s = true) {items acc : List D} (h : ∀ d ∈ items, step s d = .ok (some (g d)) s) (hl : acc.length + items.length ≤ lim) : compRun step ok items acc s = .ok (acc ++ items.map g) s := by
  rw [compRun_pure (g := fun d => some (g d)) hok h hl]
  simp
/-- .. over the image of a list -/
theorem compRun_mapL {α : Type} {step : S → D → Out (Option D)} {ok : S → Bool} {s : S} {f : α → D} {g : α → D} {xs : List α} {acc : List D} (hok : ok s = true) (h : ∀ x ∈ xs, step s (f x) = .ok (some (g x)) s) (hl : acc.length + xs.length ≤ lim) : compRun step ok (xs.map f) acc s = .ok (acc ++ xs.map g) s := by
  induction xs generalizing acc with
  | nil => simp [hok]
  | cons x xs ih =>
    rw [List.map_cons, compRun_cons, if_pos hok, h x List.mem_cons_self, compNext_some, if_pos (by simp at hl; omega), ih (fun y hy => h y (List.mem_cons_of_mem _ hy)) (by simp at hl ⊢; omega)]
    simp
theorem compRun_filL {α : Type} {step : S → D → Out (Option D)} {ok : S → Bool} {s : S} {f : α → D} {g : α → Option D} {xs : List α} {acc : List D} (hok : ok s = true) (h : ∀ x ∈ xs, step s (f x) = .ok (g x) s) (hl : acc.length + xs.length ≤ lim) : compRun step ok (xs.map f) acc s = .ok (acc ++ xs.filterMap g) s := by
  induction xs generalizing acc with
  | nil => simp [hok]
  | cons x xs ih =>
    rw [List.map_cons, compRun_cons, if_pos hok, h x List.mem_cons_self]
    cases hg : g x with
    | none => rw [compNext_none, ih (fun y hy => h y (List.mem_cons_of_mem _ hy)) (by simp at hl ⊢; omega)]; simp [hg]
    | some e =>
      rw [compNext_some, if_pos (by simp at hl; omega), ih (fun y hy => h y (List.mem_cons_of_mem _ hy)) (by simp at hl ⊢; omega)]
      simp [hg]
/-- the state goes along: P of what has been made -/
theorem compRun_inv {α : Type} {step : S → D → Out (Option D)} {ok : S → Bool} {f : α → D} {xs : List α} (P : List α → List D → S → Prop) (hok : ∀ pre out s, P pre out s → ok s = true)
    (hstep : ∀ pre x post out s, xs = pre ++ x :: post → P pre out s → (∃ e s', step s (f x) = .ok (some e) s' ∧ P (pre ++ [x]) (out ++ [e]) s') ∨ ∃ s', step s (f x) = .ok none s' ∧ P (pre ++ [x]) out s') {s : S} (h0 : P [] [] s) (hl : xs.length ≤ lim) :
    ∃ out s', compRun step ok (xs.map f) [] s = .ok out s' ∧ P xs out s' := by
  suffices ∀ (post pre : List α) (out : List D) (s : S), xs = pre ++ post → out.length ≤ pre.length → P pre out s → ∃ out' s', compRun step ok (post.map f) out s = .ok out' s' ∧ P xs out' s' from this xs [] [] s rfl (Nat.le_refl _) h0
  intro post
  induction post with
  | nil =>
    intro pre out s e _ p
    rw [List.append_nil] at e
    subst e
    exact ⟨out, s, by simp [hok _ _ _ p], p⟩
  | cons x post ih =>
    intro pre out s e lo p
    have hlim : out.length < lim := by
      have := congrArg List.length e
      simp at this
      omega
    rw [List.map_cons, compRun_cons, if_pos (hok _ _ _ p)]
    rcases hstep pre x post out s e p with ⟨v, s', q1, q2⟩ | ⟨s', q1, q2⟩
    · rw [q1, compNext_some, if_pos hlim]
      exact ih (pre ++ [x]) (out ++ [v]) s' (by simp [e]) (by simp; omega) q2
    · rw [q1, compNext_none]
      exact ih (pre ++ [x]) out s' (by simp [e]) (by simp; omega) q2
/-! ### loops -/
/-- what may become of a loop's turn -/
def Turn (N : S → Prop) (R : SV → S → Prop) (X : Nat → List (Str × D) → S → Prop) (B : S → Prop) : O → Prop
  | .nx s => N s
  | .ct s => N s
  | .bk s => B s
  | .rt v s => R v s
  | .ex c p s => X c p s
  | .bad => False
def End (N : S → Prop) (R : SV → S → Prop) (X : Nat → List (Str × D) → S → Prop) : O → Prop
  | .nx s => N s
  | .rt v s => R v s
  | .ex c p s => X c p s
  | _ => False
theorem forRun_inv {α : Type} {body : S → D → O} {ok : S → Bool} {w : List Nat} {f : α → D} {xs : List α} (P : List α → S → Prop) (R : SV → S → Prop) (X : Nat → List (Str × D) → S → Prop) (B : S → Prop) (hok : ∀ pre s, P pre s → ok s = true)
    (hstep : ∀ pre x post s, xs = pre ++ x :: post → P pre s → Turn (P (pre ++ [x])) R X B (body (s.wipe w) (f x))) {s : S} (h0 : P [] s) :
    End (fun s => ∃ s', s = s'.wipe w ∧ (P xs s' ∨ B s')) R X (forRun body ok w (xs.map f) s) := by
  suffices ∀ (post pre : List α) (s : S), xs = pre ++ post → P pre s → End (fun s => ∃ s', s = s'.wipe w ∧ (P xs s' ∨ B s')) R X (forRun body ok w (post.map f) s) from this xs [] s rfl h0
  intro post
  induction post with
  | nil =>
    intro pre s e p
    rw [List.append_nil] at e
    subst e
    rw [List.map_nil, forRun_nil, if_pos (hok _ _ p)]
    exact ⟨s, rfl, .inl p⟩
  | cons x post ih =>
    intro pre s e p
    rw [List.map_cons, forRun_cons, if_pos (hok _ _ p)]
    have q := hstep pre x post s e p
    cases hb : body (s.wipe w) (f x) with
    | nx s' => rw [hb] at q; exact ih (pre ++ [x]) s' (by simp [e]) q
    | ct s' => rw [hb] at q; exact ih (pre ++ [x]) s' (by simp [e]) q
    | bk s' => rw [hb] at q; exact ⟨s', rfl, .inr q⟩
    | rt v s' => rw [hb] at q; exact q
    | ex c p s' => rw [hb] at q; exact q
    | bad => rw [hb] at q; exact q
/-- a loop that runs through -/
theorem forRun_thru {α : Type} {body : S → D → O} {ok : S → Bool} {w : List Nat} {f : α → D} {xs : List α} (P : List α → S → Prop) (hok : ∀ pre s, P pre s → ok s = true)
    (hstep : ∀ pre x post s, xs = pre ++ x :: post → P pre s → ∃ s', body (s.wipe w) (f x) = .nx s' ∧ P (pre ++ [x]) s') {s : S} (h0 : P [] s) :
    ∃ s', forRun body ok w (xs.map f) s = .nx (s'.wipe w) ∧ P xs s' := by
  have := forRun_inv (body := body) (ok := ok) (w := w) (f := f) (xs := xs) P (fun _ _ => False) (fun _ _ _ => False) (fun _ => False) hok (fun pre x post s e p => by
    obtain ⟨s', h1, h2⟩ := hstep pre x post s e p
    rw [h1]; exact h2) h0
  cases hb : forRun body ok w (xs.map f) s with
  | nx s' =>
    rw [hb] at this
    obtain ⟨s2, e, h⟩ := this
    exact ⟨s2, by rw [e], h.resolve_right id⟩
  | ct s' => rw [hb] at this; exact this.elim
  | bk s' => rw [hb] at this; exact this.elim
  | rt v s' => rw [hb] at this; exact this.elim
  | ex c p s' => rw [hb] at this; exact this.elim
  | bad => rw [hb] at this; exact this.elim
/-- a loop that gives up at the first item of which t says so -/
theorem forRun_all {α : Type} {body : S → D → O} {ok : S → Bool} {w : List Nat} {f : α → D} {xs : List α} (t : α → Bool) {s : S} {v : SV} {s2 : S} (hok : ok s = true) (hw : s.wipe w = s)
    (hyes : ∀ x ∈ xs, t x = true → ∃ s', body s (f x) = .nx s' ∧ s'.wipe w = s ∧ ok s' = true) (hno : ∀ x ∈ xs, t x = false → ∃ s', body s (f x) = .rt v s' ∧ s'.bs = s2.bs) :
    (xs.all t = true ∧ forRun body ok w (xs.map f) s = .nx s) ∨ (xs.all t = false ∧ ∃ s', forRun body ok w (xs.map f) s = .rt v s' ∧ s'.bs = s2.bs) := by
  suffices ∀ (xs' : List α) (s0 : S), (∀ x ∈ xs', x ∈ xs) → s0.wipe w = s → ok s0 = true → (xs'.all t = true ∧ forRun body ok w (xs'.map f) s0 = .nx s) ∨ (xs'.all t = false ∧ ∃ s', forRun body ok w (xs'.map f) s0 = .rt v s' ∧ s'.bs = s2.bs) from this xs s (fun _ h => h) hw hok
  intro xs'
  induction xs' with
  | nil => intro s0 _ e o; exact .inl ⟨rfl, by rw [List.map_nil, forRun_nil, if_pos o, e]⟩
  | cons x xs' ih =>
    intro s0 hm e o
    rw [List.map_cons, forRun_cons, if_pos o, e]
    cases ht : t x with
    | true =>
      obtain ⟨s', h1, h2, h3⟩ := hyes x (hm x List.mem_cons_self) ht
      rw [h1, loopNext_nx]
      rcases ih s' (fun y hy => hm y (List.mem_cons_of_mem _ hy)) h2 h3 with ⟨a, b⟩ | ⟨a, b⟩
      · exact .inl ⟨by simp [ht, a], b⟩
      · exact .inr ⟨by simp [ht, a], b⟩
    | false =>
      obtain ⟨s', h1, h2⟩ := hno x (hm x List.mem_cons_self) ht
      rw [h1, loopNext_rt]
      exact .inr ⟨by simp [ht], s', rfl, h2⟩
/-! .. of which h tells -/
section
variable {α : Type} {body : S → D → O} {ok : S → Bool} {w : List Nat} {f : α → D} {xs : List α} {s : S} {o : O}
theorem for_thru (h : forRun body ok w (xs.map f) s = o) (P : List α → S → Prop) (h0 : P [] s) (hok : ∀ pre s, P pre s → ok s = true)
    (hstep : ∀ pre x post s, xs = pre ++ x :: post → P pre s → ∃ s', body (s.wipe w) (f x) = .nx s' ∧ P (pre ++ [x]) s') : ∃ s', o = .nx (s'.wipe w) ∧ P xs s' := by
  rw [← h]; exact forRun_thru P hok hstep h0
theorem for_inv (h : forRun body ok w (xs.map f) s = o) (P : List α → S → Prop) (R : SV → S → Prop) (X : Nat → List (Str × D) → S → Prop) (B : S → Prop) (h0 : P [] s) (hok : ∀ pre s, P pre s → ok s = true)
    (hstep : ∀ pre x post s, xs = pre ++ x :: post → P pre s → Turn (P (pre ++ [x])) R X B (body (s.wipe w) (f x))) : End (fun s => ∃ s', s = s'.wipe w ∧ (P xs s' ∨ B s')) R X o := by
  rw [← h]; exact forRun_inv P R X B hok hstep h0
theorem for_all (h : forRun body ok w (xs.map f) s = o) (t : α → Bool) {v : SV} (hok : ok s = true) (hw : s.wipe w = s)
    (hyes : ∀ x ∈ xs, t x = true → ∃ s', body s (f x) = .nx s' ∧ s'.wipe w = s ∧ ok s' = true) (hno : ∀ x ∈ xs, t x = false → ∃ s', body s (f x) = .rt v s' ∧ s'.bs = s.bs) :
    (xs.all t = true ∧ o = .nx s) ∨ (xs.all t = false ∧ ∃ s', o = .rt v s' ∧ s'.bs = s.bs) := by
  rw [← h]; exact forRun_all t hok hw hyes hno
end
section
variable {α : Type} {step : S → D → Out (Option D)} {ok : S → Bool} {f : α → D} {xs : List α} {s : S} {o : Out (List D)}
theorem comp_map (h : compRun step ok (xs.map f) [] s = o) (g : α → D) (hok : ok s = true) (hs : ∀ x ∈ xs, step s (f x) = .ok (some (g x)) s) (hl : xs.length ≤ lim) : o = .ok (xs.map g) s := by
  rw [← h, compRun_mapL hok hs (by simpa using hl)]; rfl
theorem comp_fil (h : compRun step ok (xs.map f) [] s = o) (g : α → Option D) (hok : ok s = true) (hs : ∀ x ∈ xs, step s (f x) = .ok (g x) s) (hl : xs.length ≤ lim) : o = .ok (xs.filterMap g) s := by
  rw [← h, compRun_filL hok hs (by simpa using hl)]; rfl
theorem comp_inv (h : compRun step ok (xs.map f) [] s = o) (P : List α → List D → S → Prop) (h0 : P [] [] s) (hok : ∀ pre out s, P pre out s → ok s = true)
    (hstep : ∀ pre x post out s, xs = pre ++ x :: post → P pre out s → (∃ e s', step s (f x) = .ok (some e) s' ∧ P (pre ++ [x]) (out ++ [e]) s') ∨ ∃ s', step s (f x) = .ok none s' ∧ P (pre ++ [x]) out s') (hl : xs.length ≤ lim) :
    ∃ out s', o = .ok out s' ∧ P xs out s' := by
  rw [← h]; exact compRun_inv P hok hstep h0 hl
end
/-! ### equality -/
mutual
/-- None, bools, ints, texts, lists, tuples -/
def D.data : D → Bool
  | .non => true | .bl _ => true | .int _ => true
  | .str z => PyData.strOk z
  | .lst xs => D.datas xs
  | .tup xs => D.datas xs
  | _ => false
def D.datas : List D → Bool
  | [] => true
  | x :: xs => D.data x && D.datas xs
end
mutual
/-- .. without bools -/
def D.nob : D → Bool
  | .non => true | .int _ => true
  | .str z => PyData.strOk z
  | .lst xs => D.nobs xs
  | .tup xs => D.nobs xs
  | _ => false
def D.nobs : List D → Bool
  | [] => true
  | x :: xs => D.nob x && D.nobs xs
end
mutual
def D.dep : D → Nat
  | .lst xs => D.deps xs + 1
  | .tup xs => D.deps xs + 1
  | _ => 0
def D.deps : List D → Nat
  | [] => 0
  | x :: xs => max (D.dep x) (D.deps xs)
end
mutual
theorem nob_eqv : ∀ d e : D, d.nob = true → e.nob = true → D.eqv d e = decide (d = e)
  | .non, e, h, g => by cases e <;> first | (exact Bool.noConfusion g) | rfl
  | .bl b, e, h, g => Bool.noConfusion h
  | .int i, e, h, g => by
    cases e <;> first | (exact Bool.noConfusion g) | rfl | skip
    rename_i j
    show (i == j) = decide (D.int i = D.int j)
    rw [Bool.eq_iff_iff]; simp
  | .str i, e, h, g => by
    cases e <;> first | (exact Bool.noConfusion g) | rfl | skip
    rename_i j
    show (i == j) = decide (D.str i = D.str j)
    rw [Bool.eq_iff_iff]; simp
  | .lst xs, e, h, g => by
    cases e <;> first | (exact Bool.noConfusion g) | rfl | skip
    rename_i ys
    have := nobs_eqv xs ys h g
    show PyData.eqvAll (D.pys xs) (D.pys ys) = decide (D.lst xs = D.lst ys)
    rw [this, Bool.eq_iff_iff]; simp
  | .tup xs, e, h, g => by
    cases e <;> first | (exact Bool.noConfusion g) | rfl | skip
    rename_i ys
    have := nobs_eqv xs ys h g
    show PyData.eqvAll (D.pys xs) (D.pys ys) = decide (D.tup xs = D.tup ys)
    rw [this, Bool.eq_iff_iff]; simp
  | .frl _, e, h, g => Bool.noConfusion h
  | .dic _ _, e, h, g => Bool.noConfusion h
  | .obj _ _ _, e, h, g => Bool.noConfusion h
theorem nobs_eqv : ∀ xs ys : List D, D.nobs xs = true → D.nobs ys = true → PyData.eqvAll (D.pys xs) (D.pys ys) = decide (xs = ys)
  | [], [], _, _ => rfl
  | [], _ :: _, _, _ => rfl
  | _ :: _, [], _, _ => rfl
  | x :: xs, y :: ys, h, g => by
    unfold D.nobs at h g
    rw [Bool.and_eq_true] at h g
    have a := nob_eqv x y h.1 g.1
    have b := nobs_eqv xs ys h.2 g.2
    unfold D.eqv at a
    show (PyData.eqv x.py y.py && PyData.eqvAll (D.pys xs) (D.pys ys)) = _
    rw [a, b, Bool.eq_iff_iff]
    simp
end
mutual
theorem data_lay : ∀ d : D, d.data = true → d.py.canLay0 = true ∧ d.py.depth ≤ d.dep
  | .non, h => ⟨rfl, Nat.le_refl _⟩
  | .bl b, h => ⟨rfl, Nat.le_refl _⟩
  | .int i, h => ⟨rfl, Nat.le_refl _⟩
  | .str i, h => ⟨by show (PyData.str i).canLay0 = true; simp only [PyData.canLay0]; exact h, Nat.le_refl _⟩
  | .lst xs, h => by
    obtain ⟨a, b⟩ := datas_lay xs h
    refine ⟨by show (PyData.list (D.pys xs)).canLay0 = true; simp only [PyData.canLay0]; exact a, ?_⟩
    show (PyData.list (D.pys xs)).depth ≤ D.deps xs + 1
    simp only [PyData.depth]; omega
  | .tup xs, h => by
    obtain ⟨a, b⟩ := datas_lay xs h
    refine ⟨by show (PyData.tuple (D.pys xs)).canLay0 = true; simp only [PyData.canLay0]; exact a, ?_⟩
    show (PyData.tuple (D.pys xs)).depth ≤ D.deps xs + 1
    simp only [PyData.depth]; omega
  | .frl _, h => Bool.noConfusion h
  | .dic _ _, h => Bool.noConfusion h
  | .obj _ _ _, h => Bool.noConfusion h
theorem datas_lay : ∀ xs : List D, D.datas xs = true → PyData.canLayAll0 (D.pys xs) = true ∧ PyData.depthAll (D.pys xs) ≤ D.deps xs
  | [], _ => ⟨rfl, Nat.le_refl _⟩
  | x :: xs, h => by
    unfold D.datas at h
    rw [Bool.and_eq_true] at h
    obtain ⟨a, b⟩ := data_lay x h.1
    obtain ⟨c, d⟩ := datas_lay xs h.2
    refine ⟨by show PyData.canLayAll0 (x.py :: D.pys xs) = true; simp only [PyData.canLayAll0, a, c]; rfl, ?_⟩
    show PyData.depthAll (x.py :: D.pys xs) ≤ max (D.dep x) (D.deps xs)
    simp only [PyData.depthAll]; omega
end
theorem data_okq {d : D} (h : d.data = true) (n : d.dep ≤ 60) : d.okq = true := by
  obtain ⟨a, b⟩ := data_lay d h
  unfold D.okq SeqAt.shaped
  rw [a, decide_eq_true (by omega)]; rfl
mutual
theorem nob_data : ∀ d : D, d.nob = true → d.data = true
  | .non, h => rfl
  | .bl b, h => rfl
  | .int i, h => rfl
  | .str i, h => h
  | .lst xs, h => nobs_data xs h
  | .tup xs, h => nobs_data xs h
  | .frl _, h => h
  | .dic _ _, h => h
  | .obj _ _ _, h => h
theorem nobs_data : ∀ xs : List D, D.nobs xs = true → D.datas xs = true
  | [], _ => rfl
  | x :: xs, h => by
    unfold D.nobs at h
    rw [Bool.and_eq_true] at h
    show (D.data x && D.datas xs) = true
    rw [nob_data x h.1, nobs_data xs h.2]; rfl
end
theorem nob_scal {d e : D} (h : D.scal d e = true) : True := trivial
/-- == of data without bools -/
theorem eqq_nob {d e : D} (h : d.nob = true) (g : e.nob = true) (n : d.dep ≤ 60) (m : e.dep ≤ 60) : D.eqq d e = some (decide (d = e)) := by
  unfold D.eqq
  split
  · rfl
  · rw [data_okq (nob_data d h) n, data_okq (nob_data e g) m, nob_eqv d e h g]; rfl
@[simp] theorem eqq_int (i j : Int) : D.eqq (.int i) (.int j) = some (decide (i = j)) := by
  unfold D.eqq
  rw [if_pos (by rfl)]
  congr 1
  rw [Bool.eq_iff_iff]; simp
@[simp] theorem eqq_str (i j : Str) : D.eqq (.str i) (.str j) = some (decide (i = j)) := by
  unfold D.eqq
  rw [if_pos (by rfl)]
  congr 1
  rw [Bool.eq_iff_iff]; simp
@[simp] theorem eqq_bl (i j : Bool) : D.eqq (.bl i) (.bl j) = some (decide (i = j)) := by
  unfold D.eqq
  rw [if_pos (by rfl)]
  congr 1
  rw [Bool.eq_iff_iff]; simp
@[simp] theorem nobs_ints (is : List Int) : D.nobs (is.map .int) = true := by
  induction is with
  | nil => rfl
  | cons i is ih => show (true && D.nobs (is.map .int)) = true; rw [ih]; rfl
@[simp] theorem nob_ints (is : List Int) : (D.lst (is.map .int)).nob = true := nobs_ints is
@[simp] theorem deps_ints (is : List Int) : D.deps (is.map .int) = 0 := by
  induction is with
  | nil => rfl
  | cons i is ih => show max 0 (D.deps (is.map .int)) = 0; rw [ih]; rfl
theorem dep_ints (is : List Int) : (D.lst (is.map .int)).dep = 1 := by show D.deps (is.map .int) + 1 = 1; rw [deps_ints]
theorem map_int_inj {is js : List Int} : is.map D.int = js.map D.int ↔ is = js := by
  constructor
  · intro h
    induction is generalizing js with
    | nil => cases js with
      | nil => rfl
      | cons _ _ => cases h
    | cons i is ih => cases js with
      | nil => cases h
      | cons j js =>
        simp only [List.map_cons, List.cons.injEq, D.int.injEq] at h
        rw [h.1, ih h.2]
  · intro h; rw [h]
@[simp] theorem eqq_ints (is js : List Int) : D.eqq (.lst (is.map .int)) (.lst (js.map .int)) = some (decide (is = js)) := by
  rw [eqq_nob (nob_ints is) (nob_ints js) (by rw [dep_ints]; omega) (by rw [dep_ints]; omega)]
  congr 1
  rw [Bool.eq_iff_iff]; simp [map_int_inj]
@[simp] theorem ints_ok (is : List Int) : D.ints (is.map .int) = some is := by
  induction is with
  | nil => rfl
  | cons i is ih => show (D.ints (is.map .int)).map _ = _; rw [ih]; rfl
@[simp] theorem bls_ok (is : List Bool) : D.bls (is.map .bl) = some is := by
  induction is with
  | nil => rfl
  | cons i is ih => show (D.bls (is.map .bl)).map _ = _; rw [ih]; rfl
/-! ### places -/
theorem ixI_nat {α : Type} (xs : List α) (k : Nat) : ixI xs (k : Int) = xs[k]? := by
  unfold ixI atI ixN
  by_cases h : k < xs.length
  · simp [h]
  · have : xs[k]? = none := List.getElem?_eq_none (by omega)
    rw [this]
    simp
    omega
theorem cutG_all {α : Type} (xs : List α) : cutG xs none none = xs := by
  unfold cutG
  simp [HT.sIx]
theorem cutG_from {α : Type} (xs : List α) (k : Nat) : cutG xs (some (k : Int)) none = xs.drop k := by
  unfold cutG
  rw [HT.sIx_none, HT.sIx_nat]
  by_cases h : k ≤ xs.length
  · rw [Nat.min_eq_left h, List.take_of_length_le (by simp)]
  · rw [Nat.min_eq_right (by omega), List.drop_eq_nil_of_le (Nat.le_refl _), List.drop_eq_nil_of_le (by omega)]; simp
theorem cutG_to {α : Type} (xs : List α) (k : Nat) : cutG xs none (some (k : Int)) = xs.take k := by
  unfold cutG
  rw [HT.sIx_none, HT.sIx_nat]
  simp
end Den
set_option Elab.async false
set_option linter.all false
set_option autoImplicit false
namespace Den
open PySem L2
/-! ### mixed radix -/
/-- the note fits the sizes -/
def fitB : List Int → List Int → Bool
  | [], [] => true
  | s :: ss, d :: ds => decide (0 ≤ d ∧ d < s) && fitB ss ds
  | _, _ => false
def prodI : List Int → Int
  | [] => 1
  | s :: ss => s * prodI ss
def numA : Int → List Int → List Int → Int
  | a, s :: ss, d :: ds => numA (a * s + d) ss ds
  | a, _, _ => a
def unF : List Int → Int → List Int × Int
  | [], n => ([], n)
  | s :: ss, n => ((unF ss n).2 % s :: (unF ss n).1, (unF ss n).2 / s)
def pos (ss : List Int) : Prop := ∀ s ∈ ss, 0 < s ∧ s ≤ 1000
theorem pos.tl {s : Int} {ss : List Int} (h : pos (s :: ss)) : pos ss := fun x hx => h x (List.mem_cons_of_mem _ hx)
theorem pos.hd {s : Int} {ss : List Int} (h : pos (s :: ss)) : 0 < s ∧ s ≤ 1000 := h s List.mem_cons_self
theorem fit_len : ∀ {ss ds : List Int}, fitB ss ds = true → ds.length = ss.length
  | [], [], _ => rfl
  | s :: ss, d :: ds, h => by
    unfold fitB at h
    rw [Bool.and_eq_true] at h
    simp [fit_len h.2]
  | [], _ :: _, h => by cases h
  | _ :: _, [], h => by cases h
theorem prod_pos : ∀ {ss : List Int}, pos ss → 0 < prodI ss
  | [], _ => by decide
  | s :: ss, h => by unfold prodI; exact Int.mul_pos h.hd.1 (prod_pos h.tl)
theorem numA_lin : ∀ {ss ds : List Int} (a : Int), ds.length = ss.length → numA a ss ds = a * prodI ss + numA 0 ss ds
  | [], [], a, _ => by simp [numA, prodI]
  | s :: ss, d :: ds, a, h => by
    have h' : ds.length = ss.length := by simpa using h
    unfold numA prodI
    rw [numA_lin (a * s + d) h', numA_lin (0 * s + d) h']
    rw [Int.add_mul, Int.mul_assoc]
    simp
    rw [Int.add_assoc]
  | [], _ :: _, a, h => by cases h
  | _ :: _, [], a, h => by cases h
theorem num_b : ∀ {ss ds : List Int}, pos ss → fitB ss ds = true → 0 ≤ numA 0 ss ds ∧ numA 0 ss ds < prodI ss
  | [], [], _, _ => by decide
  | s :: ss, d :: ds, p, h => by
    have hl := fit_len h
    unfold fitB at h
    rw [Bool.and_eq_true, decide_eq_true_eq] at h
    obtain ⟨a, b⟩ := num_b p.tl h.2
    have pp := prod_pos p.tl
    unfold numA prodI
    rw [numA_lin _ (by simpa using hl)]
    simp only [Int.zero_mul, Int.zero_add]
    have e1 : 0 ≤ d * prodI ss := Int.mul_nonneg h.1.1 (by omega)
    have e2 : (d + 1) * prodI ss ≤ s * prodI ss := Int.mul_le_mul_of_nonneg_right (by omega) (by omega)
    rw [Int.add_mul] at e2
    omega
  | [], _ :: _, _, h => by cases h
  | _ :: _, [], _, h => by cases h
theorem un_spec : ∀ {ss : List Int} {n : Int}, pos ss → 0 ≤ n → fitB ss (unF ss n).1 = true ∧ 0 ≤ (unF ss n).2 ∧ n = (unF ss n).2 * prodI ss + numA 0 ss (unF ss n).1
  | [], n, _, h => ⟨rfl, h, by simp [unF, prodI, numA]⟩
  | s :: ss, n, p, h => by
    obtain ⟨a, b, c⟩ := un_spec p.tl h
    have hs := p.hd.1
    have m1 := Int.emod_nonneg (unF ss n).2 (show s ≠ 0 by omega)
    have m2 := Int.emod_lt_of_pos (unF ss n).2 hs
    refine ⟨?_, ?_, ?_⟩
    · show (decide (0 ≤ (unF ss n).2 % s ∧ (unF ss n).2 % s < s) && fitB ss (unF ss n).1) = true
      rw [a, decide_eq_true ⟨m1, m2⟩]; rfl
    · exact Int.ediv_nonneg b (by omega)
    · show n = (unF ss n).2 / s * (s * prodI ss) + numA (0 * s + (unF ss n).2 % s) ss (unF ss n).1
      rw [numA_lin _ (fit_len a)]
      have e : (unF ss n).2 = (unF ss n).2 / s * s + (unF ss n).2 % s := by
        have := Int.mul_ediv_add_emod (unF ss n).2 s
        rw [Int.mul_comm] at this
        exact this.symm
      have e2 : (unF ss n).2 * prodI ss = (unF ss n).2 / s * (s * prodI ss) + (unF ss n).2 % s * prodI ss := by
        conv => lhs; rw [e]
        rw [Int.add_mul, Int.mul_assoc]
      simp only [Int.zero_mul, Int.zero_add]
      omega
theorem un_rest {ss : List Int} {n : Int} (p : pos ss) (h : 0 ≤ n) : (unF ss n).2 = 0 ↔ n < prodI ss := by
  obtain ⟨a, b, c⟩ := un_spec p h
  obtain ⟨d, e⟩ := num_b p a
  have pp := prod_pos p
  constructor
  · intro z; rw [z] at c; omega
  · intro z
    by_cases q : (unF ss n).2 = 0
    · exact q
    · have : 1 * prodI ss ≤ (unF ss n).2 * prodI ss := Int.mul_le_mul_of_nonneg_right (by omega) (by omega)
      omega
/-- notes of one number are one -/
theorem num_inj : ∀ {ss ds es : List Int}, pos ss → fitB ss ds = true → fitB ss es = true → numA 0 ss ds = numA 0 ss es → ds = es
  | [], [], [], _, _, _, _ => rfl
  | s :: ss, d :: ds, e :: es, p, h, g, q => by
    have hl : ds.length = ss.length := by simpa using fit_len h
    have gl : es.length = ss.length := by simpa using fit_len g
    unfold fitB at h g
    rw [Bool.and_eq_true, decide_eq_true_eq] at h g
    unfold numA at q
    rw [numA_lin _ hl, numA_lin _ gl] at q
    simp only [Int.zero_mul, Int.zero_add] at q
    obtain ⟨a1, a2⟩ := num_b p.tl h.2
    obtain ⟨b1, b2⟩ := num_b p.tl g.2
    have pp := prod_pos p.tl
    have hde : d = e := by
      rcases Int.lt_trichotomy d e with z | z | z
      · have : (d + 1) * prodI ss ≤ e * prodI ss := Int.mul_le_mul_of_nonneg_right (by omega) (by omega)
        rw [Int.add_mul] at this
        omega
      · exact z
      · have : (e + 1) * prodI ss ≤ d * prodI ss := Int.mul_le_mul_of_nonneg_right (by omega) (by omega)
        rw [Int.add_mul] at this
        omega
    subst hde
    rw [num_inj p.tl h.2 g.2 (by omega)]
  | [], [], _ :: _, _, _, g, _ => by cases g
  | [], _ :: _, _, _, h, _, _ => by cases h
  | _ :: _, [], _, _, h, _, _ => by cases h
  | _ :: _, _ :: _, [], _, _, g, _ => by cases g
theorem un_num {ss ds : List Int} (p : pos ss) (h : fitB ss ds = true) : unF ss (numA 0 ss ds) = (ds, 0) := by
  obtain ⟨a, b⟩ := num_b p h
  obtain ⟨c, d, e⟩ := un_spec p a
  have z := (un_rest p a).mpr b
  rw [z] at e
  have : (unF ss (numA 0 ss ds)).1 = ds := num_inj p c h (by omega)
  exact Prod.ext this z
/-- the order of notes -/
theorem num_lt : ∀ {ss ds es : List Int}, pos ss → fitB ss ds = true → fitB ss es = true → (HT.lexLt ds es = true ↔ numA 0 ss ds < numA 0 ss es)
  | [], [], [], _, _, _ => by decide
  | s :: ss, d :: ds, e :: es, p, h, g => by
    have hl : ds.length = ss.length := by simpa using fit_len h
    have gl : es.length = ss.length := by simpa using fit_len g
    unfold fitB at h g
    rw [Bool.and_eq_true, decide_eq_true_eq] at h g
    unfold numA
    rw [numA_lin _ hl, numA_lin _ gl, HT.lexLt_cons]
    simp only [Int.zero_mul, Int.zero_add]
    obtain ⟨a1, a2⟩ := num_b p.tl h.2
    obtain ⟨b1, b2⟩ := num_b p.tl g.2
    have pp := prod_pos p.tl
    split
    · rename_i z
      subst z
      rw [num_lt p.tl h.2 g.2]
      omega
    · rename_i z
      rw [decide_eq_true_eq]
      constructor
      · intro q
        have : (d + 1) * prodI ss ≤ e * prodI ss := Int.mul_le_mul_of_nonneg_right (by omega) (by omega)
        rw [Int.add_mul] at this
        omega
      · intro q
        rcases Int.lt_trichotomy d e with y | y | y
        · exact y
        · exact absurd y z
        · have : (e + 1) * prodI ss ≤ d * prodI ss := Int.mul_le_mul_of_nonneg_right (by omega) (by omega)
          rw [Int.add_mul] at this
          omega
  | [], [], _ :: _, _, _, g => by cases g
  | [], _ :: _, _, _, h, _ => by cases h
  | _ :: _, [], _, _, h, _ => by cases h
  | _ :: _, _ :: _, [], _, _, g => by cases g
theorem dataLt_ints : ∀ xs ys : List Int, PySem.W.dataLt (D.py (.lst (xs.map .int))) (D.py (.lst (ys.map .int))) = HT.lexLt xs ys
  | [], [] => by rfl
  | [], y :: ys => by rfl
  | x :: xs, [] => by rfl
  | x :: xs, y :: ys => by
    have ih := dataLt_ints xs ys
    rw [HT.lexLt_cons]
    have e1 : ∀ (z : Int) (zs : List Int), PySem.W.keyToks (D.py (.lst ((z :: zs).map .int))) = [Sum.inl 1] ++ (Sum.inl z :: PySem.W.keyToks (D.py (.lst (zs.map .int)))) := fun z zs => rfl
    unfold PySem.W.dataLt at ih ⊢
    rw [e1, e1, PySem.W.lex_pre]
    split
    · rename_i z
      subst z
      exact (PySem.W.lex_pre [Sum.inl x] _ _).trans ih
    · rename_i z
      refine (PySem.W.lex_atom (by simpa using z) _ _).trans ?_
      exact PyProof.Rows.lex_diff (O := PyProof.Rows.itemOrd) (x := Sum.inl x) (y := Sum.inl y) (r := []) (t := []) (by simpa using z)
end Den
set_option Elab.async false
set_option linter.all false
set_option maxRecDepth 100000
set_option autoImplicit false
set_option maxHeartbeats 4000000
namespace Den
open PySem PySem.Spec PyProof.Rows L2
def topS (i : Nat) : Stmt := PySem.Challenge.pw_formroads_k16_notes_as_numbers.main.body.getD i (.Pass ⟨0, 0, 0, 0⟩)
abbrev F.sizes_of : Nat := 0
abbrev F.note_of : Nat := 1
abbrev F.chosen_by : Nat := 2
abbrev F.note_number : Nat := 3
abbrev F.numbered_note : Nat := 4
abbrev F.check_note : Nat := 5
abbrev F.L_draws : Nat := 6
abbrev F.L_draw : Nat := 7
abbrev F.L_pick : Nat := 8
abbrev F.L_same : Nat := 9
abbrev F.L_list : Nat := 10
abbrev F.L_near : Nat := 11
abbrev F.L_digits : Nat := 12
abbrev F.L_number : Nat := 13
abbrev F.L_chosen_refused : Nat := 14
abbrev F.L_number_refused : Nat := 15
abbrev F.L_numbered_refused : Nat := 16
abbrev F.L_numbers_asked : Nat := 17
abbrev F.law : Nat := 18
def I_sizes_of : FI := ⟨"sizes_of", ["lists"], ["lists", "items"], [false],
  [(.ret (.comp [("items", 1)] (.nm 1) (.seq (.var 0)) (.cmp .gt (.op .len (.cons (.var 1) .nil)) (.int 1)) (.op .len (.cons (.var 1) .nil))))]⟩
def I_note_of : FI := ⟨"note_of", ["lists", "chosen"], ["lists", "chosen", "items", "item"], [false, false],
  [(.ret (.comp [("items", 2), ("item", 3)] (.tup [(.nm 2), (.nm 3)]) (.zip (.var 0) (.var 1)) (.cmp .gt (.op .len (.cons (.var 2) .nil)) (.int 1)) (.bm .index (.var 2) (.cons (.var 3) .nil))))]⟩
def I_chosen_by : FI := ⟨"chosen_by", ["lists", "note"], ["lists", "note", "chosen", "used", "items"], [false, false],
  [(.expr (.call F.check_note [false, false] (.cons (.call F.sizes_of [false] (.cons (.var 0) .nil)) (.cons (.var 1) .nil)))),
   (.set 2 (.lst .nil)),
   (.setf 3 (.int 0)),
   (.for (.nm 4) (.seq (.var 0)) [(.iff (.cmp .gt (.op .len (.cons (.var 4) .nil)) (.int 1)) [(.expr (.mut .append 2 (.cons (.op .ix (.cons (.var 4) (.cons (.op .ix (.cons (.var 1) (.cons (.var 3) .nil))) .nil))) .nil))), (.setf 3 (.op .add (.cons (.var 3) (.cons (.int 1) .nil))))] [(.expr (.mut .append 2 (.cons (.op .ix (.cons (.var 4) (.cons (.int 0) .nil))) .nil)))] [])] [4]),
   (.retv 2)]⟩
def I_note_number : FI := ⟨"note_number", ["sizes", "note"], ["sizes", "note", "number", "size", "digit"], [false, false],
  [(.expr (.call F.check_note [false, false] (.cons (.var 0) (.cons (.var 1) .nil)))),
   (.set 2 (.int 0)),
   (.for (.tup [(.nm 3), (.nm 4)]) (.zip (.var 0) (.var 1)) [(.set 2 (.op .add (.cons (.op .mul (.cons (.var 2) (.cons (.var 3) .nil))) (.cons (.var 4) .nil))))] [3, 4]),
   (.retv 2)]⟩
def I_numbered_note : FI := ⟨"numbered_note", ["sizes", "number"], ["sizes", "number", "digits", "size", "digit"], [false, false],
  [(.iff (.cmp .lt (.var 1) (.int 0)) [(.raise 1)] [] []),
   (.set 2 (.lst .nil)),
   (.for (.nm 3) (.rev (.var 0)) [(.asg (.tup [(.nm 1), (.nm 4)]) (.op .divmod (.cons (.var 1) (.cons (.var 3) .nil)))), (.expr (.mut .append 2 (.cons (.var 4) .nil)))] [3, 4]),
   (.iff (.cmp .gt (.var 1) (.int 0)) [(.raise 1)] [] []),
   (.ret (.op .rev (.cons (.var 2) .nil)))]⟩
def I_check_note : FI := ⟨"_check_note", ["sizes", "note"], ["sizes", "note", "digit", "size"], [false, false],
  [(.iff (.cmp .ne (.op .len (.cons (.var 1) .nil)) (.op .len (.cons (.var 0) .nil))) [(.raise 1)] [] []),
   (.iff (.not (.x (.op .all (.cons (.comp [("digit", 2), ("size", 3)] (.tup [(.nm 2), (.nm 3)]) (.zip (.var 1) (.var 0)) .tru (.cmp2 .le .lt (.int 0) (.var 2) (.var 3))) .nil)))) [(.raise 1)] [] [2, 3])]⟩
def I_L_draws : FI := ⟨"_law_draws", ["_law_script"], ["_law_script", "_law_draws_here", "_law_cell", "_law_rest", "_law_k"], [false],
  [(.set 1 (.lst .nil)),
   (.for (.nm 2) (.seq (.var 0)) [(.setf 3 (.op .int1 (.cons (.var 2) .nil))), (.iff (.cmp2 .le .lt (.int 0) (.var 3) (.int 1000)) [(.expr (.mut .append 1 (.cons (.var 3) .nil)))] [(.iff (.cmp .ge (.var 3) (.op .pow (.cons (.int 10) (.cons (.int 18) .nil)))) [(.for (.nm 4) (.rng (.int 60)) [(.iff (.cmp .gt (.var 3) (.int 0)) [(.expr (.mut .append 1 (.cons (.op .mod (.cons (.op .int1 (.cons (.var 3) .nil)) (.cons (.int 1000) .nil))) .nil))), (.setf 3 (.op .fdiv (.cons (.var 3) (.cons (.int 1000) .nil))))] [] [])] [4])] [(.setf 3 (.op .mod (.cons (.op .int1 (.cons (.op .mul (.cons (.var 3) (.cons (.int 48271) .nil))) .nil)) (.cons (.int 2147483647) .nil)))), (.for (.nm 4) (.rng (.int 4)) [(.setf 3 (.op .mod (.cons (.op .int1 (.cons (.op .mul (.cons (.var 3) (.cons (.int 69621) .nil))) .nil)) (.cons (.int 2147483629) .nil)))), (.expr (.mut .append 1 (.cons (.op .mod (.cons (.op .int1 (.cons (.op .fdiv (.cons (.var 3) (.cons (.int 7) .nil))) .nil)) (.cons (.int 1000) .nil))) .nil)))] [4])] [4])] [4])] [2, 3, 4]),
   (.expr (.mut .reverse 1 .nil)),
   (.retv 1)]⟩
def I_L_draw : FI := ⟨"_law_draw", ["_law_draws_here", "_law_many"], ["_law_draws_here", "_law_many"], [true, false],
  [(.iff (.cmp .eq (.op .len (.cons (.var 0) .nil)) (.int 0)) [(.ret (.int 0))] [] []),
   (.ret (.op .mod (.cons (.op .int1 (.cons (.mut .pop 0 .nil) .nil)) (.cons (.var 1) .nil))))]⟩
def I_L_pick : FI := ⟨"_law_pick", ["_law_draws_here", "_law_things"], ["_law_draws_here", "_law_things"], [true, false],
  [(.ret (.op .ix (.cons (.var 1) (.cons (.call F.L_draw [true, false] (.cons (.var 0) (.cons (.op .len (.cons (.var 1) .nil)) .nil))) .nil))))]⟩
def I_L_same : FI := ⟨"_law_same", ["_law_actual", "_law_due"], ["_law_actual", "_law_due", "_law_k"], [false, false],
  [(.iff (.or (.x (.op (.isinst ["bool"]) (.cons (.var 1) .nil))) (.x (.op (.isinst ["bool"]) (.cons (.var 0) .nil)))) [(.ret (.and (.op (.isinst ["bool"]) (.cons (.var 1) .nil)) (.and (.op (.isinst ["bool"]) (.cons (.var 0) .nil)) (.op .eq (.cons (.var 0) (.cons (.var 1) .nil))))))] [] []),
   (.iff (.or (.isN false (.var 1)) (.isN false (.var 0))) [(.ret (.and (.op .isN (.cons (.var 1) .nil)) (.op .isN (.cons (.var 0) .nil))))] [] []),
   (.iff (.x (.op (.isinst ["int"]) (.cons (.var 1) .nil))) [(.ret (.and (.op (.isinst ["int"]) (.cons (.var 0) .nil)) (.op .eq (.cons (.var 0) (.cons (.var 1) .nil)))))] [] []),
   (.iff (.x (.op (.isinst ["str"]) (.cons (.var 1) .nil))) [(.ret (.and (.op (.isinst ["str"]) (.cons (.var 0) .nil)) (.op .eq (.cons (.var 0) (.cons (.var 1) .nil)))))] [] []),
   (.iff (.and (.x (.op (.isinst ["tuple"]) (.cons (.var 1) .nil))) (.not (.x (.op (.isinst ["tuple"]) (.cons (.var 0) .nil))))) [(.ret (.bl false))] [] []),
   (.iff (.and (.x (.op (.isinst ["list"]) (.cons (.var 1) .nil))) (.not (.x (.op (.isinst ["list"]) (.cons (.var 0) .nil))))) [(.ret (.bl false))] [] []),
   (.iff (.cmp .ne (.op .len (.cons (.var 0) .nil)) (.op .len (.cons (.var 1) .nil))) [(.ret (.bl false))] [] []),
   (.for (.nm 2) (.rng (.op .len (.cons (.var 1) .nil))) [(.iff (.not (.x (.call F.L_same [false, false] (.cons (.op .ix (.cons (.var 0) (.cons (.var 2) .nil))) (.cons (.op .ix (.cons (.var 1) (.cons (.var 2) .nil))) .nil))))) [(.ret (.bl false))] [] [])] [2]),
   (.ret (.bl true))]⟩
def I_L_list : FI := ⟨"_law_list", ["_law_draws_here"], ["_law_draws_here", "_law_size", "_law_base", "_law_step", "_law_way", "_law_items", "_law_k", "_law_item"], [true],
  [(.setf 1 (.call F.L_pick [true, false] (.cons (.var 0) (.cons (.lst (.cons (.int 2) (.cons (.int 1) (.cons (.int 3) (.cons (.int 4) (.cons (.int 5) .nil)))))) .nil)))),
   (.setf 2 (.call F.L_draw [true, false] (.cons (.var 0) (.cons (.int 100) .nil)))),
   (.setf 3 (.op .add (.cons (.int 1) (.cons (.call F.L_draw [true, false] (.cons (.var 0) (.cons (.int 9) .nil))) .nil)))),
   (.setf 4 (.call F.L_draw [true, false] (.cons (.var 0) (.cons (.int 4) .nil)))),
   (.set 5 (.comp [("_law_k", 6)] (.nm 6) (.rng (.var 1)) .tru (.op .add (.cons (.var 2) (.cons (.op .mul (.cons (.var 3) (.cons (.var 6) .nil))) .nil))))),
   (.iff (.cmp .eq (.var 4) (.int 1)) [(.expr (.mut .reverse 5 .nil))] [] []),
   (.iff (.cmp .eq (.var 4) (.int 2)) [(.set 5 (.comp [("_law_item", 7)] (.nm 7) (.seq (.var 5)) .tru (.tup (.cons (.str "a") (.cons (.var 7) .nil)))))] [] []),
   (.iff (.cmp .eq (.var 4) (.int 3)) [(.set 5 (.comp [("_law_item", 7)] (.nm 7) (.seq (.var 5)) .tru (.op .str1 (.cons (.var 7) .nil))))] [] [7]),
   (.retv 5)]⟩
def I_L_near : FI := ⟨"_law_near", ["_law_draws_here", "_law_sizes", "_law_note"], ["_law_draws_here", "_law_sizes", "_law_note", "_law_near_here", "_law_way", "_law_at"], [true, false, false],
  [(.set 3 (.op .list (.cons (.var 2) .nil))),
   (.setf 4 (.call F.L_draw [true, false] (.cons (.var 0) (.cons (.int 5) .nil)))),
   (.setf 5 (.call F.L_draw [true, false] (.cons (.var 0) (.cons (.op .add (.cons (.op .len (.cons (.var 3) .nil)) (.cons (.int 1) .nil))) .nil)))),
   (.iff (.cmp .eq (.var 4) (.int 0)) [(.expr (.mut .insert 3 (.cons (.var 5) (.cons (.int 0) .nil))))] [(.iff (.cmp .lt (.var 5) (.op .len (.cons (.var 3) .nil))) [(.iff (.cmp .eq (.var 4) (.int 1)) [(.expr (.mut .popat 3 (.cons (.var 5) .nil)))] [(.iff (.cmp .eq (.var 4) (.int 2)) [(.setix 3 (.var 5) (.op .sub (.cons (.op .neg (.cons (.int 1) .nil)) (.cons (.call F.L_draw [true, false] (.cons (.var 0) (.cons (.int 2) .nil))) .nil))))] [(.iff (.cmp .eq (.var 4) (.int 3)) [(.setix 3 (.var 5) (.op .add (.cons (.op .ix (.cons (.var 1) (.cons (.var 5) .nil))) (.cons (.call F.L_draw [true, false] (.cons (.var 0) (.cons (.int 2) .nil))) .nil))))] [(.setix 3 (.var 5) (.op .sub (.cons (.op .ix (.cons (.var 1) (.cons (.var 5) .nil))) (.cons (.int 1) .nil))))] [])] [])] [])] [] [])] []),
   (.retv 3)]⟩
def I_L_digits : FI := ⟨"_law_digits", ["_law_sizes", "_law_note"], ["_law_sizes", "_law_note", "_law_k"], [false, false],
  [(.iff (.or (.not (.x (.op (.isinst ["list"]) (.cons (.var 1) .nil)))) (.cmp .ne (.op .len (.cons (.var 1) .nil)) (.op .len (.cons (.var 0) .nil)))) [(.ret (.bl false))] [] []),
   (.for (.nm 2) (.rng (.op .len (.cons (.var 0) .nil))) [(.iff (.or (.not (.x (.op (.isinst ["int"]) (.cons (.op .ix (.cons (.var 1) (.cons (.var 2) .nil))) .nil)))) (.x (.op (.isinst ["bool"]) (.cons (.op .ix (.cons (.var 1) (.cons (.var 2) .nil))) .nil)))) [(.ret (.bl false))] [] []), (.iff (.or (.cmp .lt (.op .ix (.cons (.var 1) (.cons (.var 2) .nil))) (.int 0)) (.cmp .ge (.op .ix (.cons (.var 1) (.cons (.var 2) .nil))) (.op .ix (.cons (.var 0) (.cons (.var 2) .nil))))) [(.ret (.bl false))] [] [])] [2]),
   (.ret (.bl true))]⟩
def I_L_number : FI := ⟨"_law_number", ["_law_sizes", "_law_note"], ["_law_sizes", "_law_note", "_law_number_here", "_law_k"], [false, false],
  [(.set 2 (.int 0)),
   (.for (.nm 3) (.rng (.op .len (.cons (.var 0) .nil))) [(.set 2 (.op .add (.cons (.op .mul (.cons (.var 2) (.cons (.op .ix (.cons (.var 0) (.cons (.var 3) .nil))) .nil))) (.cons (.op .ix (.cons (.var 1) (.cons (.var 3) .nil))) .nil))))] [3]),
   (.retv 2)]⟩
def I_L_chosen_refused : FI := ⟨"_law_chosen_refused", ["_law_lists", "_law_note"], ["_law_lists", "_law_note", "e"], [false, false],
  [(.try1 [(.expr (.call F.chosen_by [false, false] (.cons (.var 0) (.cons (.var 1) .nil))))] 0 (some 2) [(.ret (.be (.and (.isc 1) (.and .isv (.not (.isc 2))))))] []),
   (.ret (.bl false))]⟩
def I_L_number_refused : FI := ⟨"_law_number_refused", ["_law_sizes", "_law_note"], ["_law_sizes", "_law_note"], [false, false],
  [(.try1 [(.expr (.call F.note_number [false, false] (.cons (.var 0) (.cons (.var 1) .nil))))] 1 none [(.ret (.lit (.bl true)))] []),
   (.ret (.bl false))]⟩
def I_L_numbered_refused : FI := ⟨"_law_numbered_refused", ["_law_sizes", "_law_number_here"], ["_law_sizes", "_law_number_here"], [false, false],
  [(.try1 [(.expr (.call F.numbered_note [false, false] (.cons (.var 0) (.cons (.var 1) .nil))))] 1 none [(.ret (.lit (.bl true)))] []),
   (.ret (.bl false))]⟩
def I_L_numbers_asked : FI := ⟨"_law_numbers_asked", ["_law_draws_here", "_law_sizes"], ["_law_draws_here", "_law_sizes", "_law_product", "_law_size", "_law_number_here", "_law_k", "_law_note", "_law_other", "_law_place", "_law_near_here", "_law_beyond", "_law_later"], [true, false],
  [(.setf 2 (.int 1)),
   (.for (.nm 3) (.seq (.var 1)) [(.setf 2 (.op .mul (.cons (.var 2) (.cons (.var 3) .nil))))] []),
   (.setf 4 (.int 0)),
   (.for (.nm 5) (.rng (.int 7)) [(.setf 4 (.op .add (.cons (.op .mul (.cons (.var 4) (.cons (.int 1000) .nil))) (.cons (.call F.L_draw [true, false] (.cons (.var 0) (.cons (.int 1000) .nil))) .nil))))] [5]),
   (.setf 4 (.op .mod (.cons (.op .int1 (.cons (.var 4) .nil)) (.cons (.var 2) .nil)))),
   (.setf 6 (.call F.numbered_note [false, false] (.cons (.var 1) (.cons (.var 4) .nil)))),
   (.iff (.or (.not (.x (.call F.L_digits [false, false] (.cons (.var 1) (.cons (.var 6) .nil))))) (.cmp .ne (.call F.L_number [false, false] (.cons (.var 1) (.cons (.var 6) .nil))) (.var 4))) [(.ret (.bl false))] [] []),
   (.iff (.not (.x (.call F.L_same [false, false] (.cons (.call F.note_number [false, false] (.cons (.var 1) (.cons (.op .list (.cons (.var 6) .nil)) .nil))) (.cons (.var 4) .nil))))) [(.ret (.bl false))] [] []),
   (.iff (.cmp .lt (.op .add (.cons (.var 4) (.cons (.int 1) .nil))) (.var 2)) [(.setf 11 (.call F.numbered_note [false, false] (.cons (.var 1) (.cons (.op .add (.cons (.var 4) (.cons (.int 1) .nil))) .nil)))), (.iff (.or (.not (.x (.call F.L_digits [false, false] (.cons (.var 1) (.cons (.var 11) .nil))))) (.not (.cmp .lt (.var 6) (.var 11)))) [(.ret (.bl false))] [] [])] [] [11]),
   (.setf 7 (.comp [("_law_size", 3)] (.nm 3) (.seq (.var 1)) .tru (.call F.L_draw [true, false] (.cons (.var 0) (.cons (.var 3) .nil))))),
   (.setf 8 (.call F.note_number [false, false] (.cons (.var 1) (.cons (.op .list (.cons (.var 7) .nil)) .nil)))),
   (.iff (.or (.not (.x (.call F.L_same [false, false] (.cons (.var 8) (.cons (.call F.L_number [false, false] (.cons (.var 1) (.cons (.var 7) .nil))) .nil))))) (.cmp .ne (.op .lt (.cons (.var 7) (.cons (.var 6) .nil))) (.op .lt (.cons (.var 8) (.cons (.var 4) .nil))))) [(.ret (.bl false))] [] []),
   (.setf 9 (.call F.L_near [true, false, false] (.cons (.var 0) (.cons (.var 1) (.cons (.var 7) .nil))))),
   (.iff (.not (.x (.call F.L_digits [false, false] (.cons (.var 1) (.cons (.var 9) .nil))))) [(.iff (.not (.x (.call F.L_number_refused [false, false] (.cons (.var 1) (.cons (.op .list (.cons (.var 9) .nil)) .nil))))) [(.ret (.bl false))] [] [])] [(.iff (.not (.x (.call F.L_same [false, false] (.cons (.call F.numbered_note [false, false] (.cons (.var 1) (.cons (.call F.note_number [false, false] (.cons (.var 1) (.cons (.op .list (.cons (.var 9) .nil)) .nil))) .nil))) (.cons (.var 9) .nil))))) [(.ret (.bl false))] [] [])] []),
   (.for (.nm 10) (.seq (.lst (.cons (.var 2) (.cons (.op .add (.cons (.var 2) (.cons (.var 4) .nil))) (.cons (.op .neg (.cons (.int 1) .nil)) (.cons (.op .sub (.cons (.op .neg (.cons (.int 1) .nil)) (.cons (.var 4) .nil))) .nil)))))) [(.iff (.not (.x (.call F.L_numbered_refused [false, false] (.cons (.var 1) (.cons (.var 10) .nil))))) [(.ret (.bl false))] [] [])] [10]),
   (.iff (.not (.x (.call F.L_same [false, false] (.cons (.call F.numbered_note [false, false] (.cons (.var 1) (.cons (.int 0) .nil))) (.cons (.comp [("_law_size", 3)] (.nm 3) (.seq (.var 1)) .tru (.int 0)) .nil))))) [(.ret (.bl false))] [] []),
   (.ret (.call F.L_same [false, false] (.cons (.call F.numbered_note [false, false] (.cons (.var 1) (.cons (.op .sub (.cons (.var 2) (.cons (.int 1) .nil))) .nil))) (.cons (.comp [("_law_size", 3)] (.nm 3) (.seq (.var 1)) .tru (.op .sub (.cons (.var 3) (.cons (.int 1) .nil)))) .nil))))]⟩
def I_law : FI := ⟨"law", ["_law_script"], ["_law_script", "_law_draws_here", "_law_lists", "_law_indexes", "_law_chosen", "_law_sizes", "_law_note", "_law_passed", "_law_items", "_law_digits_here", "_law_turn", "_law_near_here", "_law_wide", "_law_k", "_law_handed", "_law_told", "_law_made", "_law_found"], [false],
  [(.set 1 (.call F.L_draws [false] (.cons (.var 0) .nil))),
   (.setf 2 (.comp [("_law_k", 13)] (.nm 13) (.rng (.call F.L_pick [true, false] (.cons (.var 1) (.cons (.lst (.cons (.int 2) (.cons (.int 0) (.cons (.int 1) (.cons (.int 3) (.cons (.int 4) (.cons (.int 5) (.cons (.int 6) .nil)))))))) .nil)))) .tru (.call F.L_list [true] (.cons (.var 1) .nil)))),
   (.setf 3 (.comp [("_law_items", 8)] (.nm 8) (.seq (.var 2)) .tru (.call F.L_draw [true, false] (.cons (.var 1) (.cons (.op .len (.cons (.var 8) .nil)) .nil))))),
   (.setf 4 (.comp [("_law_k", 13)] (.nm 13) (.rng (.op .len (.cons (.var 2) .nil))) .tru (.op .ix (.cons (.op .ix (.cons (.var 2) (.cons (.var 13) .nil))) (.cons (.op .ix (.cons (.var 3) (.cons (.var 13) .nil))) .nil))))),
   (.setf 5 (.comp [("_law_items", 8)] (.nm 8) (.seq (.var 2)) (.cmp .gt (.op .len (.cons (.var 8) .nil)) (.int 1)) (.op .len (.cons (.var 8) .nil)))),
   (.setf 6 (.comp [("_law_k", 13)] (.nm 13) (.rng (.op .len (.cons (.var 2) .nil))) (.cmp .gt (.op .len (.cons (.op .ix (.cons (.var 2) (.cons (.var 13) .nil))) .nil)) (.int 1)) (.op .ix (.cons (.var 3) (.cons (.var 13) .nil))))),
   (.setf 7 (.comp [("_law_items", 8)] (.nm 8) (.seq (.var 2)) .tru (.op .list (.cons (.var 8) .nil)))),
   (.setf 8 (.op .list (.cons (.var 4) .nil))),
   (.setf 9 (.op .list (.cons (.var 6) .nil))),
   (.for (.nm 10) (.rng (.int 2)) [(.set 15 (.call F.sizes_of [false] (.cons (.var 7) .nil))), (.set 16 (.call F.note_of [false, false] (.cons (.var 7) (.cons (.var 8) .nil)))), (.set 17 (.call F.chosen_by [false, false] (.cons (.var 7) (.cons (.var 9) .nil)))), (.iff (.or (.not (.x (.call F.L_same [false, false] (.cons (.var 15) (.cons (.var 5) .nil))))) (.or (.not (.x (.call F.L_same [false, false] (.cons (.var 16) (.cons (.var 6) .nil))))) (.not (.x (.call F.L_same [false, false] (.cons (.var 17) (.cons (.var 4) .nil))))))) [(.ret (.bl false))] [] []), (.expr (.mut .append 15 (.cons (.int 2) .nil))), (.expr (.mut .append 16 (.cons (.int 0) .nil))), (.expr (.mut .append 17 (.cons (.int 0) .nil)))] [10, 16, 17]),
   (.setf 11 (.call F.L_near [true, false, false] (.cons (.var 1) (.cons (.var 5) (.cons (.var 6) .nil))))),
   (.iff (.not (.x (.call F.L_digits [false, false] (.cons (.var 5) (.cons (.var 11) .nil))))) [(.iff (.not (.x (.call F.L_chosen_refused [false, false] (.cons (.var 7) (.cons (.op .list (.cons (.var 11) .nil)) .nil))))) [(.ret (.bl false))] [] [])] [(.iff (.not (.x (.call F.L_same [false, false] (.cons (.call F.note_of [false, false] (.cons (.var 7) (.cons (.call F.chosen_by [false, false] (.cons (.var 7) (.cons (.op .list (.cons (.var 11) .nil)) .nil))) .nil))) (.cons (.var 11) .nil))))) [(.ret (.bl false))] [] [])] []),
   (.for (.nm 10) (.rng (.int 2)) [(.set 15 (.call F.numbered_note [false, false] (.cons (.op .list (.cons (.var 5) .nil)) (.cons (.call F.L_number [false, false] (.cons (.var 5) (.cons (.var 6) .nil))) .nil)))), (.iff (.not (.x (.call F.L_same [false, false] (.cons (.var 15) (.cons (.var 6) .nil))))) [(.ret (.bl false))] [] []), (.expr (.mut .append 15 (.cons (.int 0) .nil)))] [10, 15]),
   (.set 12 (.lst .nil)),
   (.for (.nm 13) (.rng (.call F.L_pick [true, false] (.cons (.var 1) (.cons (.lst (.cons (.int 3) (.cons (.int 0) (.cons (.int 1) (.cons (.int 2) (.cons (.int 4) (.cons (.int 5) (.cons (.int 6) .nil)))))))) .nil)))) [(.expr (.mut .append 12 (.cons (.op .add (.cons (.int 1) (.cons (.call F.L_draw [true, false] (.cons (.var 1) (.cons (.call F.L_pick [true, false] (.cons (.var 1) (.cons (.lst (.cons (.int 4) (.cons (.int 1000) (.cons (.int 1) .nil)))) .nil))) .nil))) .nil))) .nil)))] [13]),
   (.setf 14 (.op .list (.cons (.var 12) .nil))),
   (.iff (.or (.not (.x (.call F.L_numbers_asked [true, false] (.cons (.var 1) (.cons (.var 5) .nil))))) (.not (.x (.call F.L_numbers_asked [true, false] (.cons (.var 1) (.cons (.var 14) .nil)))))) [(.ret (.bl false))] [] []),
   (.iff (.or (.not (.x (.call F.L_same [false, false] (.cons (.var 14) (.cons (.var 12) .nil))))) (.not (.x (.call F.L_same [false, false] (.cons (.var 7) (.cons (.var 2) .nil)))))) [(.ret (.bl false))] [] []),
   (.ret (.and (.call F.L_same [false, false] (.cons (.var 8) (.cons (.var 4) .nil))) (.call F.L_same [false, false] (.cons (.var 9) (.cons (.var 6) .nil)))))]⟩
def Tb : Tab := ⟨[I_sizes_of, I_note_of, I_chosen_by, I_note_number, I_numbered_note, I_check_note, I_L_draws, I_L_draw, I_L_pick, I_L_same, I_L_list, I_L_near, I_L_digits, I_L_number, I_L_chosen_refused, I_L_number_refused, I_L_numbered_refused, I_L_numbers_asked, I_law], ["ValueError", "all", "bool", "divmod", "int", "isinstance", "len", "list", "range", "reversed", "str", "tuple", "zip"], [], ["FormroadsError", "InvalidNote", "Unreached"]⟩
def subT : Nat → Nat → Option Bool
  | 0, 0 => some true
  | 0, 1 => some false
  | 0, 2 => some false
  | 1, 0 => some true
  | 1, 1 => some true
  | 1, 2 => some false
  | 2, 0 => some true
  | 2, 1 => some false
  | 2, 2 => some true
  | _, _ => none
def Pr : Prog := ⟨Tb.fs, subT, 100000⟩
theorem ck_sizes_of : chkCs Tb I_sizes_of.N (defScope (topS 5)) I_sizes_of.body (defBody (topS 5)) = true := by decide +kernel
theorem ck_note_of : chkCs Tb I_note_of.N (defScope (topS 6)) I_note_of.body (defBody (topS 6)) = true := by decide +kernel
theorem ck_chosen_by : chkCs Tb I_chosen_by.N (defScope (topS 7)) I_chosen_by.body (defBody (topS 7)) = true := by decide +kernel
theorem ck_note_number : chkCs Tb I_note_number.N (defScope (topS 8)) I_note_number.body (defBody (topS 8)) = true := by decide +kernel
theorem ck_numbered_note : chkCs Tb I_numbered_note.N (defScope (topS 9)) I_numbered_note.body (defBody (topS 9)) = true := by decide +kernel
theorem ck_check_note : chkCs Tb I_check_note.N (defScope (topS 10)) I_check_note.body (defBody (topS 10)) = true := by decide +kernel
theorem ck_L_draws : chkCs Tb I_L_draws.N (defScope (topS 12)) I_L_draws.body (defBody (topS 12)) = true := by decide +kernel
theorem ck_L_draw : chkCs Tb I_L_draw.N (defScope (topS 13)) I_L_draw.body (defBody (topS 13)) = true := by decide +kernel
theorem ck_L_pick : chkCs Tb I_L_pick.N (defScope (topS 14)) I_L_pick.body (defBody (topS 14)) = true := by decide +kernel
theorem ck_L_same : chkCs Tb I_L_same.N (defScope (topS 15)) I_L_same.body (defBody (topS 15)) = true := by decide +kernel
theorem ck_L_list : chkCs Tb I_L_list.N (defScope (topS 16)) I_L_list.body (defBody (topS 16)) = true := by decide +kernel
theorem ck_L_near : chkCs Tb I_L_near.N (defScope (topS 17)) I_L_near.body (defBody (topS 17)) = true := by decide +kernel
theorem ck_L_digits : chkCs Tb I_L_digits.N (defScope (topS 18)) I_L_digits.body (defBody (topS 18)) = true := by decide +kernel
theorem ck_L_number : chkCs Tb I_L_number.N (defScope (topS 19)) I_L_number.body (defBody (topS 19)) = true := by decide +kernel
theorem ck_L_chosen_refused : chkCs Tb I_L_chosen_refused.N (defScope (topS 20)) I_L_chosen_refused.body (defBody (topS 20)) = true := by decide +kernel
theorem ck_L_number_refused : chkCs Tb I_L_number_refused.N (defScope (topS 21)) I_L_number_refused.body (defBody (topS 21)) = true := by decide +kernel
theorem ck_L_numbered_refused : chkCs Tb I_L_numbered_refused.N (defScope (topS 22)) I_L_numbered_refused.body (defBody (topS 22)) = true := by decide +kernel
theorem ck_L_numbers_asked : chkCs Tb I_L_numbers_asked.N (defScope (topS 23)) I_L_numbers_asked.body (defBody (topS 23)) = true := by decide +kernel
theorem ck_law : chkCs Tb I_law.N (defScope (topS 24)) I_law.body (defBody (topS 24)) = true := by decide +kernel
theorem sc_sizes_of : FnScope I_sizes_of.N I_sizes_of.ps (defScope (topS 5)) := ⟨rfl, rfl, rfl, by decide +kernel, rfl, by decide +kernel, by decide +kernel⟩
theorem sc_note_of : FnScope I_note_of.N I_note_of.ps (defScope (topS 6)) := ⟨rfl, rfl, rfl, by decide +kernel, rfl, by decide +kernel, by decide +kernel⟩
theorem sc_chosen_by : FnScope I_chosen_by.N I_chosen_by.ps (defScope (topS 7)) := ⟨rfl, rfl, rfl, by decide +kernel, rfl, by decide +kernel, by decide +kernel⟩
theorem sc_note_number : FnScope I_note_number.N I_note_number.ps (defScope (topS 8)) := ⟨rfl, rfl, rfl, by decide +kernel, rfl, by decide +kernel, by decide +kernel⟩
theorem sc_numbered_note : FnScope I_numbered_note.N I_numbered_note.ps (defScope (topS 9)) := ⟨rfl, rfl, rfl, by decide +kernel, rfl, by decide +kernel, by decide +kernel⟩
theorem sc_check_note : FnScope I_check_note.N I_check_note.ps (defScope (topS 10)) := ⟨rfl, rfl, rfl, by decide +kernel, rfl, by decide +kernel, by decide +kernel⟩
theorem sc_L_draws : FnScope I_L_draws.N I_L_draws.ps (defScope (topS 12)) := ⟨rfl, rfl, rfl, by decide +kernel, rfl, by decide +kernel, by decide +kernel⟩
theorem sc_L_draw : FnScope I_L_draw.N I_L_draw.ps (defScope (topS 13)) := ⟨rfl, rfl, rfl, by decide +kernel, rfl, by decide +kernel, by decide +kernel⟩
theorem sc_L_pick : FnScope I_L_pick.N I_L_pick.ps (defScope (topS 14)) := ⟨rfl, rfl, rfl, by decide +kernel, rfl, by decide +kernel, by decide +kernel⟩
theorem sc_L_same : FnScope I_L_same.N I_L_same.ps (defScope (topS 15)) := ⟨rfl, rfl, rfl, by decide +kernel, rfl, by decide +kernel, by decide +kernel⟩
theorem sc_L_list : FnScope I_L_list.N I_L_list.ps (defScope (topS 16)) := ⟨rfl, rfl, rfl, by decide +kernel, rfl, by decide +kernel, by decide +kernel⟩
theorem sc_L_near : FnScope I_L_near.N I_L_near.ps (defScope (topS 17)) := ⟨rfl, rfl, rfl, by decide +kernel, rfl, by decide +kernel, by decide +kernel⟩
theorem sc_L_digits : FnScope I_L_digits.N I_L_digits.ps (defScope (topS 18)) := ⟨rfl, rfl, rfl, by decide +kernel, rfl, by decide +kernel, by decide +kernel⟩
theorem sc_L_number : FnScope I_L_number.N I_L_number.ps (defScope (topS 19)) := ⟨rfl, rfl, rfl, by decide +kernel, rfl, by decide +kernel, by decide +kernel⟩
theorem sc_L_chosen_refused : FnScope I_L_chosen_refused.N I_L_chosen_refused.ps (defScope (topS 20)) := ⟨rfl, rfl, rfl, by decide +kernel, rfl, by decide +kernel, by decide +kernel⟩
theorem sc_L_number_refused : FnScope I_L_number_refused.N I_L_number_refused.ps (defScope (topS 21)) := ⟨rfl, rfl, rfl, by decide +kernel, rfl, by decide +kernel, by decide +kernel⟩
theorem sc_L_numbered_refused : FnScope I_L_numbered_refused.N I_L_numbered_refused.ps (defScope (topS 22)) := ⟨rfl, rfl, rfl, by decide +kernel, rfl, by decide +kernel, by decide +kernel⟩
theorem sc_L_numbers_asked : FnScope I_L_numbers_asked.N I_L_numbers_asked.ps (defScope (topS 23)) := ⟨rfl, rfl, rfl, by decide +kernel, rfl, by decide +kernel, by decide +kernel⟩
theorem sc_law : FnScope I_law.N I_law.ps (defScope (topS 24)) := ⟨rfl, rfl, rfl, by decide +kernel, rfl, by decide +kernel, by decide +kernel⟩
theorem call_sizes_of (n : Nat) (as : List Arg) : Pr.call (n + 1) F.sizes_of as = runF (Pr.env n) I_sizes_of as := rfl
theorem call_note_of (n : Nat) (as : List Arg) : Pr.call (n + 1) F.note_of as = runF (Pr.env n) I_note_of as := rfl
theorem call_chosen_by (n : Nat) (as : List Arg) : Pr.call (n + 1) F.chosen_by as = runF (Pr.env n) I_chosen_by as := rfl
theorem call_note_number (n : Nat) (as : List Arg) : Pr.call (n + 1) F.note_number as = runF (Pr.env n) I_note_number as := rfl
theorem call_numbered_note (n : Nat) (as : List Arg) : Pr.call (n + 1) F.numbered_note as = runF (Pr.env n) I_numbered_note as := rfl
theorem call_check_note (n : Nat) (as : List Arg) : Pr.call (n + 1) F.check_note as = runF (Pr.env n) I_check_note as := rfl
theorem call_L_draws (n : Nat) (as : List Arg) : Pr.call (n + 1) F.L_draws as = runF (Pr.env n) I_L_draws as := rfl
theorem call_L_draw (n : Nat) (as : List Arg) : Pr.call (n + 1) F.L_draw as = runF (Pr.env n) I_L_draw as := rfl
theorem call_L_pick (n : Nat) (as : List Arg) : Pr.call (n + 1) F.L_pick as = runF (Pr.env n) I_L_pick as := rfl
theorem call_L_same (n : Nat) (as : List Arg) : Pr.call (n + 1) F.L_same as = runF (Pr.env n) I_L_same as := rfl
theorem call_L_list (n : Nat) (as : List Arg) : Pr.call (n + 1) F.L_list as = runF (Pr.env n) I_L_list as := rfl
theorem call_L_near (n : Nat) (as : List Arg) : Pr.call (n + 1) F.L_near as = runF (Pr.env n) I_L_near as := rfl
theorem call_L_digits (n : Nat) (as : List Arg) : Pr.call (n + 1) F.L_digits as = runF (Pr.env n) I_L_digits as := rfl
theorem call_L_number (n : Nat) (as : List Arg) : Pr.call (n + 1) F.L_number as = runF (Pr.env n) I_L_number as := rfl
theorem call_L_chosen_refused (n : Nat) (as : List Arg) : Pr.call (n + 1) F.L_chosen_refused as = runF (Pr.env n) I_L_chosen_refused as := rfl
theorem call_L_number_refused (n : Nat) (as : List Arg) : Pr.call (n + 1) F.L_number_refused as = runF (Pr.env n) I_L_number_refused as := rfl
theorem call_L_numbered_refused (n : Nat) (as : List Arg) : Pr.call (n + 1) F.L_numbered_refused as = runF (Pr.env n) I_L_numbered_refused as := rfl
theorem call_L_numbers_asked (n : Nat) (as : List Arg) : Pr.call (n + 1) F.L_numbers_asked as = runF (Pr.env n) I_L_numbers_asked as := rfl
theorem call_law (n : Nat) (as : List Arg) : Pr.call (n + 1) F.law as = runF (Pr.env n) I_law as := rfl
end Den
set_option Elab.async false
set_option linter.all false
set_option maxRecDepth 100000
set_option autoImplicit false
set_option maxHeartbeats 1000000
namespace Den
open PySem L2
@[simp] theorem env_cl (n : Nat) : (Pr.env n).cl = Pr.call n := rfl
@[simp] theorem env_sub (n : Nat) : (Pr.env n).sub = subT := rfl
@[simp] theorem env_wf (n : Nat) : (Pr.env n).wf = 100000 := rfl
/-- the last number, the rest -/
def drawV (ds : List Int) (m : Int) : Int := (ds.getLast?.getD 0) % m
theorem drawV_b (ds : List Int) {m : Int} (h : 0 < m) : 0 ≤ drawV ds m ∧ drawV ds m < m := ⟨Int.emod_nonneg _ (by omega), Int.emod_lt_of_pos _ h⟩
theorem draw_ok (n : Nat) (ds : List Int) (m : Int) (hm : 0 < m) : Pr.call (n+1) F.L_draw [.bor (.lst (ds.map .int)), .val (.int m)] = .ret (.shr (.int (drawV ds m))) [.lst (ds.dropLast.map .int)] := by
  rw [call_L_draw]
  rcases List.eq_nil_or_concat ds with rfl | ⟨l, a, rfl⟩
  · simp [runF, I_L_draw, drawV]
  · have : ¬ ((l.length : Int) + 1 = 0) := by omega
    simp [runF, I_L_draw, drawV, this, hm]
def ow (ds : List Int) : Option SV := some (.own (.lst (ds.map .int)))
theorem draws_ok (n : Nat) (ns : List Int) (hn : ns.length ≤ 63) : ∃ ds : List Int, Pr.call (n+1) F.L_draws [.val (.frl (ns.map .int))] = .ret (.own (.lst (ds.map .int))) [] := by
  rw [call_L_draws]
  simp [runF, I_L_draws]
  generalize h : forRun _ _ _ _ _ = o
  have := for_thru h (fun pre s => ∃ (ds : List Int) (a b c : Option SV), s = ⟨[some (.shr (.frl (ns.map .int))), ow ds, a, b, c], []⟩ ∧ ds.length ≤ 60 * pre.length)
    ⟨[], none, none, none, rfl, Nat.le_refl _⟩ (fun pre s ⟨ds, a, b, c, h, _⟩ => by simp [looksB_k, h]) (fun pre x post s hx ⟨ds, a, b, c, h, hl⟩ => ?_)
  · obtain ⟨s', rfl, ds, a, b, c, rfl, hl⟩ := this
    refine ⟨ds.reverse, ?_⟩
    simp [ow]
  · subst h
    have hp : pre.length < 63 := by have := congrArg List.length hx; simp at this; omega
    have hlim : ds.length < lim := by unfold lim; omega
    simp [fstep_k, ow]
    by_cases h1 : 0 ≤ x ∧ x < 1000
    · simp [h1.1, h1.2, hlim]
      exact ⟨ds ++ [x], by simp, by simp; omega⟩
    · have e1 : (if 0 ≤ x then (if x < 1000 then True else False) else False) = False := by
        by_cases q : 0 ≤ x <;> simp [q] <;> omega
      by_cases h3 : 1000000000000000000 ≤ x
      · have h0 : 0 ≤ x := by omega
        have h2 : ¬ x < 1000 := by omega
        simp [h0, h2, h3]
        generalize h4 : forRun _ _ _ _ _ = o4
        have := for_thru h4 (fun pre' s => ∃ (ds' : List Int) (y : Int) (e : Option SV), s = ⟨[some (.shr (.frl (ns.map .int))), ow ds', some (.shr (.int x)), some (.shr (.int y)), e], []⟩ ∧ ds'.length ≤ ds.length + pre'.length)
          ⟨ds, x, none, rfl, Nat.le_refl _⟩ (fun pre s ⟨ds, a, b, h, _⟩ => by simp [looksB_k]) (fun pre' k post s hx ⟨ds', y, e, h, hl'⟩ => ?_)
        · obtain ⟨s', rfl, ds', y, e, rfl, hl'⟩ := this
          simp [ow] at hl' ⊢
          exact ⟨ds', rfl, by omega⟩
        · subst h
          have hp' : pre'.length < 60 := by have := congrArg List.length hx; simp at this; omega
          have hlim' : ds'.length < lim := by unfold lim; omega
          simp [fstep_k, ow]
          by_cases h5 : 0 < y
          · simp [h5, hlim']
            exact ⟨ds' ++ [y % 1000], by simp, by simp; omega⟩
          · simp [h5]
            exact ⟨ds', rfl, by omega⟩
      · by_cases h0 : 0 ≤ x
        · have h2 : ¬ x < 1000 := fun z => h1 ⟨h0, z⟩
          simp [h0, h2, h3]
          generalize h4 : forRun _ _ _ _ _ = o4
          have := for_thru h4 (fun pre' s => ∃ (ds' : List Int) (y : Int) (e : Option SV), s = ⟨[some (.shr (.frl (ns.map .int))), ow ds', some (.shr (.int x)), some (.shr (.int y)), e], []⟩ ∧ ds'.length ≤ ds.length + pre'.length)
            ⟨ds, _, none, rfl, Nat.le_refl _⟩ (fun pre s ⟨ds, a, b, h, _⟩ => by simp [looksB_k]) (fun pre' k post s hx ⟨ds', y, e, h, hl'⟩ => ?_)
          · obtain ⟨s', rfl, ds', y, e, rfl, hl'⟩ := this
            simp [ow] at hl' ⊢
            exact ⟨ds', rfl, by omega⟩
          · subst h
            have hp' : pre'.length < 4 := by have := congrArg List.length hx; simp at this; omega
            have hlim' : ds'.length < lim := by unfold lim; omega
            simp [fstep_k, ow, hlim']
            exact ⟨ds' ++ [y * 69621 % 2147483629 / 7 % 1000], by simp, by simp; omega⟩
        · simp [h0]
          have h6 : ¬ 1000000000000000000 ≤ x := by omega
          simp [h6]
          generalize h4 : forRun _ _ _ _ _ = o4
          have := for_thru h4 (fun pre' s => ∃ (ds' : List Int) (y : Int) (e : Option SV), s = ⟨[some (.shr (.frl (ns.map .int))), ow ds', some (.shr (.int x)), some (.shr (.int y)), e], []⟩ ∧ ds'.length ≤ ds.length + pre'.length)
            ⟨ds, _, none, rfl, Nat.le_refl _⟩ (fun pre s ⟨ds, a, b, h, _⟩ => by simp [looksB_k]) (fun pre' k post s hx ⟨ds', y, e, h, hl'⟩ => ?_)
          · obtain ⟨s', rfl, ds', y, e, rfl, hl'⟩ := this
            simp [ow] at hl' ⊢
            exact ⟨ds', rfl, by omega⟩
          · subst h
            have hp' : pre'.length < 4 := by have := congrArg List.length hx; simp at this; omega
            have hlim' : ds'.length < lim := by unfold lim; omega
            simp [fstep_k, ow, hlim']
            exact ⟨ds' ++ [y * 69621 % 2147483629 / 7 % 1000], by simp, by simp; omega⟩
end Den
set_option Elab.async false
set_option linter.all false
set_option maxRecDepth 100000
set_option autoImplicit false
set_option maxHeartbeats 1000000
namespace Den
open PySem L2
theorem datas_mem : ∀ {xs : List D} {x : D}, D.datas xs = true → x ∈ xs → x.data = true
  | y :: ys, x, h, m => by
    unfold D.datas at h
    rw [Bool.and_eq_true] at h
    rcases List.mem_cons.mp m with rfl | m
    · exact h.1
    · exact datas_mem h.2 m
theorem deps_mem : ∀ {xs : List D} {x : D}, x ∈ xs → x.dep ≤ D.deps xs
  | y :: ys, x, m => by
    unfold D.deps
    rcases List.mem_cons.mp m with rfl | m
    · omega
    · have := deps_mem m; omega
/-- list by list -/
theorem all_same {xs ys : List D} (h : xs.length = ys.length) : ((List.range ys.length).all fun k => decide (xs[k]? = ys[k]?)) = decide (xs = ys) := by
  rw [Bool.eq_iff_iff]
  simp only [List.all_eq_true, List.mem_range, decide_eq_true_eq]
  constructor
  · intro q
    apply List.ext_getElem? 
    intro k
    by_cases hk : k < ys.length
    · exact q k hk
    · rw [List.getElem?_eq_none (by omega), List.getElem?_eq_none (by omega)]
  · intro q k _; rw [q]
mutual
/-- no list is long -/
def D.lens : D → Bool
  | .lst xs => decide (xs.length ≤ lim) && D.lenss xs
  | .tup xs => decide (xs.length ≤ lim) && D.lenss xs
  | _ => true
def D.lenss : List D → Bool
  | [] => true
  | x :: xs => D.lens x && D.lenss xs
end
theorem lenss_mem : ∀ {xs : List D} {x : D}, D.lenss xs = true → x ∈ xs → x.lens = true
  | y :: ys, x, h, m => by
    unfold D.lenss at h
    rw [Bool.and_eq_true] at h
    rcases List.mem_cons.mp m with rfl | m
    · exact h.1
    · exact lenss_mem h.2 m
theorem same_ok (n : Nat) : ∀ (m : Nat) (a d : D), a.data = true → d.data = true → d.lens = true → d.dep ≤ m → Pr.call (n + m + 1) F.L_same [.val a, .val d] = .ret (.shr (.bl (decide (a = d)))) [] := by
  intro m
  induction m with
  | zero =>
    intro a d ha hd hz hm
    rw [call_L_same]
    cases d <;> first | (exact Bool.noConfusion hd) | (cases a <;> first | (exact Bool.noConfusion ha) | (simp [runF, I_L_same]; done)) | (simp [D.dep] at hm)
  | succ m ih =>
    intro a d ha hd hz hm
    rw [call_L_same]
    have key : ∀ (xs ys : List D) (c : List D → D), D.datas xs = true → D.datas ys = true → D.lenss ys = true → D.deps ys ≤ m → xs.length = ys.length → (∀ zs (k : Int), ixS (c zs) (.int k) = (ixI zs k).map .shr) →
        ∀ {o : O}, forRun (forStep (Pr.env (n + (m + 1))) (Tg.nm 2) [C.iff (T.x (X.call F.L_same [false, false] (XS.cons (X.op Op.ix (XS.cons (X.var 0) (XS.cons (X.var 2) XS.nil))) (XS.cons (X.op Op.ix (XS.cons (X.var 1) (XS.cons (X.var 2) XS.nil))) XS.nil)))).not [C.ret (X.bl false)] [] []])
          (looksB [PV.val (D.int ys.length)] [D.int ys.length]) [2] (List.map (fun k : Nat => D.int k) (List.range ys.length)) ⟨[some (.shr (c xs)), some (.shr (c ys)), none], []⟩ = o →
        (decide (xs = ys) = true ∧ o = .nx ⟨[some (.shr (c xs)), some (.shr (c ys)), none], []⟩) ∨ (decide (xs = ys) = false ∧ ∃ s', o = .rt (.shr (.bl false)) s' ∧ s'.bs = []) := by
      intro xs ys c h1 h2 h3 h4 h5 hc o h
      rw [← all_same h5]
      have at_ : ∀ k, k < ys.length → ∃ x y, xs[k]? = some x ∧ ys[k]? = some y ∧ x.data = true ∧ y.data = true ∧ y.lens = true ∧ y.dep ≤ m := fun k hk => by
        have e1 : xs[k]? = some xs[k] := List.getElem?_eq_getElem (by omega)
        have e2 : ys[k]? = some ys[k] := List.getElem?_eq_getElem hk
        exact ⟨xs[k], ys[k], e1, e2, datas_mem h1 (List.getElem_mem _), datas_mem h2 (List.getElem_mem _), lenss_mem h3 (List.getElem_mem _), Nat.le_trans (deps_mem (List.getElem_mem _)) h4⟩
      refine for_all h (fun k => decide (xs[k]? = ys[k]?)) (by simp [looksB_k]) (by simp) (fun k hk ht => ?_) (fun k hk ht => ?_)
      · obtain ⟨x, y, e1, e2, a1, a2, a3, a4⟩ := at_ k (List.mem_range.mp hk)
        have e3 : x = y := by
          have ht := of_decide_eq_true ht
          rw [e1, e2] at ht
          exact Option.some.inj ht
        subst e3
        have := ih x x a1 a2 a3 a4
        simp [fstep_k, hc, ixI_nat, e1, e2, show n + (m + 1) = n + m + 1 from rfl, this, looksB_k]
      · obtain ⟨x, y, e1, e2, a1, a2, a3, a4⟩ := at_ k (List.mem_range.mp hk)
        have e3 : ¬ x = y := by
          have ht := of_decide_eq_false ht
          rw [e1, e2] at ht
          exact fun z => ht (by rw [z])
        have := ih x y a1 a2 a3 a4
        simp [fstep_k, hc, ixI_nat, e1, e2, show n + (m + 1) = n + m + 1 from rfl, this, e3, looksB_k]
    cases d <;> first | (exact Bool.noConfusion hd) | (cases a <;> first | (exact Bool.noConfusion ha) | (simp [runF, I_L_same]; done)) | skip
    · rename_i ys
      cases a <;> first | (exact Bool.noConfusion ha) | (simp [runF, I_L_same]; done) | skip
      rename_i xs
      by_cases hl : (xs.length : Int) = ys.length
      · have hz' : ys.length ≤ lim ∧ D.lenss ys = true := by
          have hz : (decide (ys.length ≤ lim) && D.lenss ys) = true := hz
          rw [Bool.and_eq_true, decide_eq_true_eq] at hz
          exact hz
        have h62 : (ys.length : Int) < 4611686018427387904 := by
          have := hz'.1
          unfold lim at this
          omega
        simp [runF, I_L_same, hl, h62]
        generalize h : forRun _ _ _ _ _ = o
        rcases key xs ys .lst ha hd hz'.2 (by have : D.deps ys + 1 ≤ m + 1 := hm; omega) (by omega) (fun _ _ => rfl) h with ⟨e, rfl⟩ | ⟨e, s', rfl, e2⟩
        · have := of_decide_eq_true e
          simp [this]
        · have := of_decide_eq_false e
          simp [this, e2]
      · have hne : xs ≠ ys := fun z => hl (by rw [z])
        simp [runF, I_L_same, hl, hne]
    · rename_i ys
      cases a <;> first | (exact Bool.noConfusion ha) | (simp [runF, I_L_same]; done) | skip
      rename_i xs
      by_cases hl : (xs.length : Int) = ys.length
      · have hz' : ys.length ≤ lim ∧ D.lenss ys = true := by
          have hz : (decide (ys.length ≤ lim) && D.lenss ys) = true := hz
          rw [Bool.and_eq_true, decide_eq_true_eq] at hz
          exact hz
        have h62 : (ys.length : Int) < 4611686018427387904 := by
          have := hz'.1
          unfold lim at this
          omega
        simp [runF, I_L_same, hl, h62]
        generalize h : forRun _ _ _ _ _ = o
        rcases key xs ys .tup ha hd hz'.2 (by have : D.deps ys + 1 ≤ m + 1 := hm; omega) (by omega) (fun _ _ => rfl) h with ⟨e, rfl⟩ | ⟨e, s', rfl, e2⟩
        · have := of_decide_eq_true e
          simp [this]
        · have := of_decide_eq_false e
          simp [this, e2]
      · have hne : xs ≠ ys := fun z => hl (by rw [z])
        simp [runF, I_L_same, hl, hne]
end Den
set_option Elab.async false
set_option linter.all false
set_option maxRecDepth 100000
set_option autoImplicit false
set_option maxHeartbeats 1000000
namespace Den
open PySem L2
@[simp] theorem lt63 (n : Nat) (h : n ≤ 100000) : ((n : Int) < 4611686018427387904) = True := by
  simp; omega
theorem zip_pairs (xs ys : List Int) : List.map (fun p : D × D => D.tup [p.1, p.2]) ((xs.map D.int).zip (ys.map D.int)) = (xs.zip ys).map fun p => D.tup [.int p.1, .int p.2] := by
  rw [List.zip_map, List.map_map]; rfl
theorem fit_all : ∀ (ss ds : List Int), ds.length = ss.length → ((ds.zip ss).all fun p => decide (0 ≤ p.1) && decide (p.1 < p.2)) = fitB ss ds
  | [], [], _ => rfl
  | s :: ss, d :: ds, h => by
    have := fit_all ss ds (by simpa using h)
    simp [fitB] at this ⊢
    rw [← this]
  | [], _ :: _, h => by cases h
  | _ :: _, [], h => by cases h
theorem fit_ne : ∀ {ss ds : List Int}, ds.length ≠ ss.length → fitB ss ds = false := fun {ss ds} h => by
  cases e : fitB ss ds with
  | false => rfl
  | true => exact absurd (fit_len e) h
theorem check_ok (n : Nat) (ss ds : List Int) (hz : ds.length ≤ 100000) : Pr.call (n+1) F.check_note [.val (.lst (ss.map .int)), .val (.lst (ds.map .int))] = if fitB ss ds = true then .ret (.shr .non) [] else .ex 1 [] [] := by
  rw [call_check_note]
  by_cases hl : (ds.length : Int) = ss.length
  · simp [runF, I_check_note, hl]
    generalize h : compRun _ _ _ _ _ = o
    rw [zip_pairs] at h
    have := comp_map h (fun p => .bl (decide (0 ≤ p.1 ∧ p.1 < p.2))) (by simp [looksB_k]) (fun p hp => by
      by_cases q : 0 ≤ p.1 <;> simp [step_k, q]) (by simp [lim]; omega)
    subst this
    have e := fit_all ss ds (by omega)
    have e2 : (List.map (fun p : Int × Int => D.bl (decide (0 ≤ p.1 ∧ p.1 < p.2))) (ds.zip ss)) = ((ds.zip ss).map fun p => decide (0 ≤ p.1 ∧ p.1 < p.2)).map D.bl := by rw [List.map_map]; rfl
    have hlen : ¬ lim < min ds.length ss.length := by unfold lim; omega
    rw [e2]
    simp [-List.map_map]
    rw [e]
    cases fitB ss ds <;> simp
  · have : fitB ss ds = false := fit_ne (by omega)
    simp [runF, I_check_note, hl, this]
/-- the lists of two and more items -/
def szs (ls : List (List D)) : List Int := (ls.filter fun l => decide (1 < l.length)).map fun l => (l.length : Int)
theorem szs_fil (ls : List (List D)) : (ls.filterMap fun l => if 1 < l.length then some (D.int l.length) else none) = (szs ls).map .int := by
  unfold szs
  induction ls with
  | nil => rfl
  | cons l ls ih => by_cases h : 1 < l.length <;> simp [h, ih]
theorem sizes_of_ok (n : Nat) (ls : List (List D)) (hl : ls.length ≤ 1000) : Pr.call (n+1) F.sizes_of [.val (.lst (ls.map .lst))] = .ret (.own (.lst ((szs ls).map .int))) [] := by
  rw [call_sizes_of]
  simp [runF, I_sizes_of]
  generalize h : compRun _ _ _ _ _ = o
  have := comp_fil h (fun l => if 1 < l.length then some (D.int l.length) else none) (by simp [looksB_k]) (fun l hl => by
    by_cases q : 1 < l.length
    · have : (1 : Int) < l.length := by omega
      simp [step_k, q, this]
    · have : ¬ (1 : Int) < l.length := by omega
      simp [step_k, q, this]) (by unfold lim; omega)
  subst this
  rw [szs_fil]
  simp
/-! numbers -/
theorem zipA : ∀ (pre ss ds post : List Int) , True := fun _ _ _ _ => trivial
def numZ (a : Int) : List (Int × Int) → Int
  | [] => a
  | p :: ps => numZ (a * p.1 + p.2) ps
theorem numZ_snoc (a : Int) (ps : List (Int × Int)) (p : Int × Int) : numZ a (ps ++ [p]) = numZ a ps * p.1 + p.2 := by
  induction ps generalizing a with
  | nil => rfl
  | cons q ps ih => exact ih _
theorem numZ_A : ∀ (a : Int) (ss ds : List Int), ds.length = ss.length → numZ a (ss.zip ds) = numA a ss ds
  | a, [], [], _ => rfl
  | a, s :: ss, d :: ds, h => numZ_A _ ss ds (by simpa using h)
  | _, [], _ :: _, h => by cases h
  | _, _ :: _, [], h => by cases h
theorem note_number_ok (n : Nat) (ss ds : List Int) (hp : pos ss) (hs : ss.length ≤ 1000) (hz : ds.length ≤ 100000) : Pr.call (n+2) F.note_number [.val (.lst (ss.map .int)), .val (.lst (ds.map .int))] = if fitB ss ds = true then .ret (.shr (.int (numA 0 ss ds))) [] else .ex 1 [] [] := by
  rw [call_note_number]
  have hc := check_ok n ss ds hz
  by_cases hf : fitB ss ds = true
  · rw [if_pos hf] at hc ⊢
    have hl := fit_len hf
    simp [runF, I_note_number, hc]
    generalize h : forRun _ _ _ _ _ = o
    rw [zip_pairs] at h
    have := for_thru h (fun pre s => ∃ a b, s = ⟨[some (.shr (.lst (ss.map .int))), some (.shr (.lst (ds.map .int))), some (.shr (.int (numZ 0 pre))), a, b], []⟩) ⟨none, none, rfl⟩ (fun pre s ⟨a, b, h⟩ => by simp [looksB_k, h])
      (fun pre p post s hx ⟨a, b, h⟩ => by
        subst h
        have hm : p ∈ ss.zip ds := by rw [hx]; simp
        have hp' := hp p.1 (List.of_mem_zip hm).1
        have : mulG (numZ 0 pre) p.1 = true := mulG_r _ _ ⟨by omega, by omega⟩
        exact ⟨⟨[_, _, some (.shr (.int (numZ 0 (pre ++ [p])))), some (.shr (.int p.1)), some (.shr (.int p.2))], []⟩, by simp [fstep_k, this, numZ_snoc], _, _, rfl⟩)
    obtain ⟨s', rfl, a, b, rfl⟩ := this
    simp [numZ_A _ _ _ hl]
  · rw [if_neg hf] at hc ⊢
    simp [runF, I_note_number, hc]
end Den
set_option Elab.async false
set_option linter.all false
set_option maxRecDepth 100000
set_option autoImplicit false
set_option maxHeartbeats 1000000
namespace Den
open PySem L2
theorem range_split {n x : Nat} {pre post : List Nat} (h : List.range n = pre ++ x :: post) : x = pre.length ∧ pre.length < n := by
  have e : (List.range n)[pre.length]? = some x := by rw [h]; simp
  obtain ⟨a, b⟩ := List.getElem?_eq_some_iff.mp e
  rw [List.getElem_range] at b
  simp at a
  exact ⟨b.symm, a⟩
theorem numbered_ok (n : Nat) (ss : List Int) (num : Int) (hp : pos ss) (hs : ss.length ≤ 1000) : Pr.call (n+1) F.numbered_note [.val (.lst (ss.map .int)), .val (.int num)] =
    if 0 ≤ num ∧ num < prodI ss then .ret (.own (.lst ((unF ss num).1.map .int))) [] else .ex 1 [] [] := by
  rw [call_numbered_note]
  by_cases h0 : num < 0
  · have : ¬ (0 ≤ num ∧ num < prodI ss) := by omega
    simp [runF, I_numbered_note, h0, this]
  · simp [runF, I_numbered_note, h0]
    generalize h : forRun _ _ _ _ _ = o
    rw [← List.map_reverse] at h
    have := for_thru h (fun pre s => ∃ a b, s = ⟨[some (.shr (.lst (ss.map .int))), some (.shr (.int (unF pre.reverse num).2)), some (.own (.lst ((unF pre.reverse num).1.reverse.map .int))), a, b], []⟩ ∧ (unF pre.reverse num).1.length = pre.length)
      ⟨none, none, rfl, rfl⟩ (fun pre s ⟨a, b, h, _⟩ => by simp [looksB_k, h]) (fun pre x post s hx ⟨a, b, h, hl⟩ => by
        subst h
        have hm : x ∈ ss := by have : x ∈ ss.reverse := by rw [hx]; simp
                               simpa using this
        have hx' := hp x hm
        have hdiv : divG x = true := divG_lit x ⟨hx'.1, by omega⟩
        have hlen : pre.length < 1000 := by have := congrArg List.length hx; simp at this; omega
        have hlim : (unF pre.reverse num).1.length < lim := by unfold lim; omega
        refine ⟨⟨[some (.shr (.lst (ss.map .int))), some (.shr (.int (unF (pre ++ [x]).reverse num).2)), some (.own (.lst ((unF (pre ++ [x]).reverse num).1.reverse.map .int))), some (.shr (.int x)), some (.shr (.int ((unF pre.reverse num).2 % x)))], []⟩, ?_, _, _, rfl, by simp [unF, hl]⟩
        simp [fstep_k, hdiv, hlim, unF])
    obtain ⟨s', rfl, a, b, rfl, hl⟩ := this
    rw [List.reverse_reverse]
    have hr := un_rest hp (show 0 ≤ num by omega)
    obtain ⟨_, hq, _⟩ := un_spec hp (show 0 ≤ num by omega)
    by_cases h1 : num < prodI ss
    · have h2 := hr.mpr h1
      have h3 : 0 ≤ num ∧ num < prodI ss := ⟨by omega, h1⟩
      rw [if_pos h3]
      simp [h2]
    · have h2 : 0 < (unF ss num).2 := by
        have : (unF ss num).2 ≠ 0 := fun z => h1 (hr.mp z)
        omega
      have h3 : ¬ (0 ≤ num ∧ num < prodI ss) := by omega
      rw [if_neg h3]
      simp [h2]
theorem L_number_ok (n : Nat) (ss ds : List Int) (hp : pos ss) (hs : ss.length ≤ 1000) (hl : ds.length = ss.length) : Pr.call (n+1) F.L_number [.val (.lst (ss.map .int)), .val (.lst (ds.map .int))] = .ret (.shr (.int (numA 0 ss ds))) [] := by
  rw [call_L_number]
  have h62 : (ss.length : Int) < 4611686018427387904 := by omega
  simp [runF, I_L_number, h62]
  generalize h : forRun _ _ _ _ _ = o
  have := for_thru h (fun pre s => ∃ a, s = ⟨[some (.shr (.lst (ss.map .int))), some (.shr (.lst (ds.map .int))), some (.shr (.int (numZ 0 ((ss.zip ds).take pre.length)))), a], []⟩) ⟨none, rfl⟩ (fun pre s ⟨a, h⟩ => by simp [looksB_k])
    (fun pre x post s hx ⟨a, h⟩ => by
      subst h
      obtain ⟨hxe, hlt⟩ := range_split hx
      subst hxe
      have e1 : ss[pre.length]? = some ss[pre.length] := List.getElem?_eq_getElem hlt
      have e2 : ds[pre.length]? = some ds[pre.length] := List.getElem?_eq_getElem (by omega)
      have e3 : (ss.zip ds)[pre.length]? = some (ss[pre.length], ds[pre.length]) := List.getElem?_zip_eq_some.mpr ⟨e1, e2⟩
      have e4 : (ss.zip ds).take (pre.length + 1) = (ss.zip ds).take pre.length ++ [(ss[pre.length], ds[pre.length])] := by rw [List.take_add_one, e3]; rfl
      have hp' := hp ss[pre.length] (List.getElem_mem _)
      have : ∀ z, mulG z ss[pre.length] = true := fun z => mulG_r _ _ ⟨by omega, by omega⟩
      refine ⟨⟨[some (.shr (.lst (ss.map .int))), some (.shr (.lst (ds.map .int))), some (.shr (.int (numZ 0 ((ss.zip ds).take (pre.length + 1))))), some (.shr (.int pre.length))], []⟩, ?_, some (.shr (.int pre.length)), by rw [List.length_append]; rfl⟩
      rw [e4, numZ_snoc]
      simp [fstep_k, ixI_nat, e1, e2, this])
  obtain ⟨s', rfl, a, rfl⟩ := this
  have : (ss.zip ds).take ss.length = ss.zip ds := List.take_of_length_le (by simp; omega)
  simp [this, numZ_A _ _ _ hl]
theorem fit_range : ∀ {ss ds : List Int}, ds.length = ss.length → ((List.range ss.length).all fun k => decide (0 ≤ ds.getD k 0) && decide (ds.getD k 0 < ss.getD k 0)) = fitB ss ds
  | [], [], _ => rfl
  | s :: ss, d :: ds, h => by
    have := fit_range (ss := ss) (ds := ds) (by simpa using h)
    rw [List.length_cons, List.range_succ_eq_map, List.all_cons, List.all_map]
    simp [fitB] at this ⊢
    rw [← this]
    rfl
  | [], _ :: _, h => by cases h
  | _ :: _, [], h => by cases h
theorem L_digits_ok (n : Nat) (ss ds : List Int) (hs : ss.length ≤ 1000) : Pr.call (n+1) F.L_digits [.val (.lst (ss.map .int)), .val (.lst (ds.map .int))] = .ret (.shr (.bl (fitB ss ds))) [] := by
  rw [call_L_digits]
  have h62 : (ss.length : Int) < 4611686018427387904 := by omega
  by_cases hl : (ds.length : Int) = ss.length
  · simp [runF, I_L_digits, hl, h62]
    generalize h : forRun _ _ _ _ _ = o
    rw [← fit_range (show ds.length = ss.length by omega)]
    have at_ : ∀ k ∈ List.range ss.length, ∃ x y, ss[k]? = some x ∧ ds[k]? = some y ∧ ss.getD k 0 = x ∧ ds.getD k 0 = y := fun k hk => by
      have hk := List.mem_range.mp hk
      have e1 : ss[k]? = some ss[k] := List.getElem?_eq_getElem hk
      have e2 : ds[k]? = some (ds[k]'(by omega)) := List.getElem?_eq_getElem (by omega)
      refine ⟨_, _, e1, e2, ?_, ?_⟩ <;> rw [List.getD_eq_getElem?_getD] <;> simp [e1, e2]
    rcases for_all h (fun k => decide (0 ≤ ds.getD k 0) && decide (ds.getD k 0 < ss.getD k 0)) (v := .shr (.bl false)) (by simp [looksB_k]) (by simp) (fun k hk ht => by
        obtain ⟨x, y, e1, e2, e3, e4⟩ := at_ k hk
        rw [e3, e4, Bool.and_eq_true, decide_eq_true_eq, decide_eq_true_eq] at ht
        have q1 : ¬ y < 0 := by omega
        have q2 : ¬ x ≤ y := by omega
        simp [fstep_k, ixI_nat, e1, e2, q1, q2, looksB_k]) (fun k hk ht => by
        obtain ⟨x, y, e1, e2, e3, e4⟩ := at_ k hk
        rw [e3, e4, Bool.and_eq_false_iff, decide_eq_false_iff_not, decide_eq_false_iff_not] at ht
        by_cases q1 : y < 0
        · simp [fstep_k, ixI_nat, e1, e2, q1]
        · have q2 : x ≤ y := by omega
          simp [fstep_k, ixI_nat, e1, e2, q1, q2]) with ⟨e, rfl⟩ | ⟨e, s', rfl, e2⟩
    · rw [e]; simp
    · rw [e]; simp [e2]
  · have : fitB ss ds = false := fit_ne (by omega)
    simp [runF, I_L_digits, hl, this]
theorem number_refused_ok (n : Nat) (ss ds : List Int) (hp : pos ss) (hs : ss.length ≤ 1000) (hz : ds.length ≤ 100000) : Pr.call (n+3) F.L_number_refused [.val (.lst (ss.map .int)), .val (.lst (ds.map .int))] = .ret (.shr (.bl (!fitB ss ds))) [] := by
  rw [call_L_number_refused]
  have := note_number_ok n ss ds hp hs hz
  cases hf : fitB ss ds <;> rw [hf] at this <;> simp [runF, I_L_number_refused, this, subT]


theorem numbered_refused_ok (n : Nat) (ss : List Int) (num : Int) (hp : pos ss) (hs : ss.length ≤ 1000) : Pr.call (n+2) F.L_numbered_refused [.val (.lst (ss.map .int)), .val (.int num)] = .ret (.shr (.bl (!decide (0 ≤ num ∧ num < prodI ss)))) [] := by
  rw [call_L_numbered_refused]
  have := numbered_ok n ss num hp hs
  by_cases hf : 0 ≤ num ∧ num < prodI ss <;> simp only [hf, if_true, if_false] at this <;> simp [runF, I_L_numbered_refused, this, subT, hf]


end Den
set_option Elab.async false
set_option linter.all false
set_option maxRecDepth 100000
set_option autoImplicit false
set_option maxHeartbeats 1000000
namespace Den
open PySem L2
theorem draw_ex (n : Nat) (ds : List Int) (m : Int) (hm : 0 < m) : ∃ (v : Int) (ds' : List Int), 0 ≤ v ∧ v < m ∧ Pr.call (n+1) F.L_draw [.bor (.lst (ds.map .int)), .val (.int m)] = .ret (.shr (.int v)) [.lst (ds'.map .int)] :=
  ⟨_, _, (drawV_b ds hm).1, (drawV_b ds hm).2, draw_ok n ds m hm⟩
theorem ixI_in {α : Type} {xs : List α} {i : Int} (h0 : 0 ≤ i) (h : i < xs.length) : ∃ x, ixI xs i = some x ∧ x ∈ xs := by
  obtain ⟨k, rfl⟩ := Int.eq_ofNat_of_zero_le h0
  rw [ixI_nat]
  have hk : k < xs.length := by omega
  exact ⟨xs[k], List.getElem?_eq_getElem hk, List.getElem_mem _⟩
theorem ixI_map {α β : Type} (f : α → β) (xs : List α) (i : Int) : ixI (xs.map f) i = (ixI xs i).map f := by
  unfold ixI atI
  rw [List.length_map]
  cases ixN xs.length i with
  | none => rfl
  | some k => simp
theorem pick_ok (n : Nat) (ds : List Int) (xs : List Int) (hx : 0 < xs.length) : ∃ v ds', v ∈ xs ∧ Pr.call (n+2) F.L_pick [.bor (.lst (ds.map .int)), .val (.lst (xs.map .int))] = .ret (.shr (.int v)) [.lst (List.map D.int ds')] := by
  rw [call_L_pick]
  obtain ⟨v, ds', b1, b2, hd⟩ := draw_ex n ds (xs.length : Int) (by omega)
  obtain ⟨x, e, hx⟩ := ixI_in b1 b2
  refine ⟨x, ds', hx, ?_⟩
  simp [runF, I_L_pick, hd, ixI_map, e]
theorem ixN_nat {n k : Nat} (h : k < n) : ixN n (k : Int) = some k := by
  unfold ixN
  simp; omega
theorem map_insertIdx' {α β : Type} (f : α → β) (a : α) : ∀ (k : Nat) (xs : List α), (xs.insertIdx k a).map f = (xs.map f).insertIdx k (f a)
  | 0, xs => rfl
  | k + 1, [] => rfl
  | k + 1, x :: xs => by
    have := map_insertIdx' f a k xs
    simp [this]
theorem map_eraseIdx' {α β : Type} (f : α → β) : ∀ (k : Nat) (xs : List α), (xs.eraseIdx k).map f = (xs.map f).eraseIdx k
  | _, [] => rfl
  | 0, x :: xs => rfl
  | k + 1, x :: xs => by
    have := map_eraseIdx' f k xs
    simp [this]
theorem near_ok (n : Nat) (ds ss nt : List Int) (hl : ss.length = nt.length) (hz : nt.length ≤ 1000) : ∃ (ds' nn : List Int), Pr.call (n+2) F.L_near [.bor (.lst (ds.map .int)), .val (.lst (ss.map .int)), .val (.lst (nt.map .int))] = .ret (.own (.lst (nn.map .int))) [.lst (ds'.map .int)] ∧ nn.length ≤ 1001 := by
  rw [call_L_near]
  obtain ⟨way, ds1, a1, a2, d1⟩ := draw_ex n ds 5 (by omega)
  obtain ⟨at_, ds2, b1, b2, d2⟩ := draw_ex n ds1 ((nt.length : Int) + 1) (by omega)
  obtain ⟨r, ds3, c1, c2, d3⟩ := draw_ex n ds2 2 (by omega)
  have hlim : nt.length < lim := by unfold lim; omega
  obtain ⟨k, rfl⟩ := Int.eq_ofNat_of_zero_le b1
  have hk : k ≤ nt.length := by omega
  by_cases w0 : way = 0
  · refine ⟨ds2, nt.insertIdx k 0, ?_, by rw [List.length_insertIdx]; split <;> omega⟩
    have e : List.insertIdx (List.map D.int nt) k (D.int 0) = List.map D.int (nt.insertIdx k 0) := (map_insertIdx' _ _ _ _).symm
    simp [runF, I_L_near, d1, d2, w0, hlim, hk, e]
  · by_cases hlt : k < nt.length
    · have hs : k < ss.length := by omega
      have e1 : ixN nt.length (k : Int) = some k := ixN_nat hlt
      have e2 : ss[k]? = some ss[k] := List.getElem?_eq_getElem hs
      have h62 : (k : Int) < 4611686018427387904 := by omega
      by_cases w1 : way = 1
      · refine ⟨ds2, nt.eraseIdx k, ?_, by rw [List.length_eraseIdx]; split <;> omega⟩
        have e : List.eraseIdx (List.map D.int nt) k = List.map D.int (nt.eraseIdx k) := (map_eraseIdx' _ _ _).symm
        simp [runF, I_L_near, d1, d2, w1, hlt, h62, e]
      · by_cases w2 : way = 2
        · refine ⟨ds3, nt.set k (-1 - r), ?_, by rw [List.length_set]; omega⟩
          simp [runF, I_L_near, d1, d2, d3, w2, hlt, e1]
        · by_cases w3 : way = 3
          · refine ⟨ds3, nt.set k (ss[k] + r), ?_, by rw [List.length_set]; omega⟩
            simp [runF, I_L_near, d1, d2, d3, w3, hlt, e1, e2, ixI_nat]
          · refine ⟨ds2, nt.set k (ss[k] - 1), ?_, by rw [List.length_set]; omega⟩
            simp [runF, I_L_near, d1, d2, w0, w1, w2, w3, hlt, e1, e2, ixI_nat]
    · refine ⟨ds2, nt, ?_, by omega⟩
      simp [runF, I_L_near, d1, d2, w0, hlt]
end Den
set_option Elab.async false
set_option linter.all false
set_option maxRecDepth 100000
set_option autoImplicit false
set_option maxHeartbeats 1000000
namespace Den
open PySem L2
structure Good (l : List D) : Prop where
  lo : 1 ≤ l.length
  hi : l.length ≤ 5
  nd : l.Nodup
  nb : ∀ d ∈ l, d.nob = true ∧ d.dep ≤ 1 ∧ d.lens = true
theorem nodup_map {α β : Type} {f : α → β} : ∀ {xs : List α}, xs.Nodup → (∀ x ∈ xs, ∀ y ∈ xs, f x = f y → x = y) → (xs.map f).Nodup
  | [], _, _ => List.nodup_nil
  | x :: xs, h, g => by
    rw [List.nodup_cons] at h
    rw [List.map_cons, List.nodup_cons]
    refine ⟨fun m => ?_, nodup_map h.2 fun a ha b hb => g a (List.mem_cons_of_mem _ ha) b (List.mem_cons_of_mem _ hb)⟩
    obtain ⟨y, hy, e⟩ := List.mem_map.mp m
    have := g y (List.mem_cons_of_mem _ hy) x List.mem_cons_self e
    subst this
    exact h.1 hy
def strI (i : Int) : Str := toString i
theorem str_tab : ((List.range 200).map fun k : Nat => strI k).Nodup ∧ ∀ k ∈ List.range 200, PyData.strOk (strI (k : Nat)) = true := by decide +kernel
theorem str_inj {i j : Int} (hi : 0 ≤ i ∧ i < 200) (hj : 0 ≤ j ∧ j < 200) (h : strI i = strI j) : i = j := by
  obtain ⟨a, rfl⟩ := Int.eq_ofNat_of_zero_le hi.1
  obtain ⟨b, rfl⟩ := Int.eq_ofNat_of_zero_le hj.1
  have ha : a < 200 := by omega
  have hb : b < 200 := by omega
  have e1 : ((List.range 200).map fun k : Nat => strI k)[a]? = some (strI a) := by simp [ha]
  have e2 : ((List.range 200).map fun k : Nat => strI k)[b]? = some (strI b) := by simp [hb]
  have := (List.getElem?_inj (by simp; exact ha) str_tab.1).mp (e1.trans (by rw [h]; exact e2.symm))
  omega
theorem str_ok {i : Int} (hi : 0 ≤ i ∧ i < 200) : PyData.strOk (strI i) = true := by
  obtain ⟨a, rfl⟩ := Int.eq_ofNat_of_zero_le hi.1
  exact str_tab.2 a (List.mem_range.mpr (by omega))
/-- the numbers -/
def numsL (b s : Int) (n : Nat) : List Int := (List.range n).map fun k : Nat => b + s * k
theorem nums_nd {b s : Int} {n : Nat} (hs : 0 < s) : (numsL b s n).Nodup := by
  refine nodup_map List.nodup_range fun x _ y _ h => ?_
  have : s * x = s * y := by omega
  have := Int.eq_of_mul_eq_mul_left (by omega) this
  omega
theorem nums_b {b s : Int} {n : Nat} (hb : 0 ≤ b ∧ b < 100) (hs : 0 < s ∧ s ≤ 9) (hn : n ≤ 5) : ∀ i ∈ numsL b s n, 0 ≤ i ∧ i < 200 := fun i hi => by
  obtain ⟨k, hk, rfl⟩ := List.mem_map.mp hi
  have hk := List.mem_range.mp hk
  have h1 : 0 ≤ s * k := Int.mul_nonneg (by omega) (by omega)
  have h2 : s * k ≤ 9 * k := Int.mul_le_mul_of_nonneg_right hs.2 (by omega)
  omega
theorem good_map {is : List Int} {f : Int → D} (lo : 1 ≤ is.length) (hi : is.length ≤ 5) (nd : is.Nodup) (hb : ∀ i ∈ is, 0 ≤ i ∧ i < 200) (hf : ∀ i, 0 ≤ i ∧ i < 200 → (f i).nob = true ∧ (f i).dep ≤ 1 ∧ (f i).lens = true)
    (hj : ∀ i j, 0 ≤ i ∧ i < 200 → 0 ≤ j ∧ j < 200 → f i = f j → i = j) : Good (is.map f) where
  lo := by simpa using lo
  hi := by simpa using hi
  nd := nodup_map nd fun x hx y hy h => hj x y (hb x hx) (hb y hy) h
  nb := fun d hd => by
    obtain ⟨i, hi, rfl⟩ := List.mem_map.mp hd
    exact hf i (hb i hi)
theorem list_ok (n : Nat) (ds : List Int) : ∃ (l : List D) (ds' : List Int), Good l ∧ Pr.call (n+3) F.L_list [.bor (.lst (ds.map .int))] = .ret (.own (.lst l)) [.lst (ds'.map .int)] := by
  rw [call_L_list]
  obtain ⟨sz, ds1, hsz, d1⟩ := pick_ok n ds [2, 1, 3, 4, 5] (by decide)
  obtain ⟨b, ds2, b1, b2, d2⟩ := draw_ex (n+1) ds1 100 (by omega)
  obtain ⟨st, ds3, s1, s2, d3⟩ := draw_ex (n+1) ds2 9 (by omega)
  obtain ⟨w, ds4, w1, w2, d4⟩ := draw_ex (n+1) ds3 4 (by omega)
  have hsz' : 1 ≤ sz ∧ sz ≤ 5 := by simp at hsz; omega
  obtain ⟨m, rfl⟩ := Int.eq_ofNat_of_zero_le (show 0 ≤ sz by omega)
  have hm : ∀ z, mulG (1 + st) z = true := fun z => mulG_l _ _ ⟨by omega, by omega⟩
  have h62 : (m : Int) < 4611686018427387904 := by omega
  simp at d1
  simp [runF, I_L_list, d1, d2, d3, d4, h62]
  generalize h : compRun _ _ _ _ _ = o
  have := comp_map h (fun k : Nat => .int (b + (1 + st) * k)) (by simp [looksB_k]) (fun k hk => by simp [step_k, hm]) (by unfold lim; simp; omega)
  subst this
  have e0 : (List.range m).map (fun k : Nat => D.int (b + (1 + st) * k)) = (numsL b (1 + st) m).map .int := by unfold numsL; rw [List.map_map]; rfl
  rw [e0]
  clear h
  have len : (numsL b (1 + st) m).length = m := by unfold numsL; simp
  have nd : (numsL b (1 + st) m).Nodup := nums_nd (by omega)
  have bd := nums_b (b := b) (s := 1 + st) (n := m) ⟨b1, b2⟩ ⟨by omega, by omega⟩ (by omega)
  generalize numsL b (1 + st) m = is at *
  have gi : Good (is.map .int) := good_map (by omega) (by omega) nd bd (fun i _ => ⟨rfl, Nat.zero_le _, rfl⟩) (fun i j _ _ h => by cases h; rfl)
  by_cases w1 : w = 1
  · subst w1
    simp
    refine ⟨_, ?_, rfl, ds4, rfl⟩
    have := good_map (f := D.int) (is := is.reverse) (by simp; omega) (by simp; omega) ((List.reverse_perm is).nodup_iff.mpr nd) (fun i hi => bd i (by simpa using hi)) (fun i _ => ⟨rfl, Nat.zero_le _, rfl⟩) (fun i j _ _ h => by cases h; rfl)
    simpa using this
  · by_cases w2 : w = 2
    · subst w2
      simp
      generalize h : compRun _ _ _ _ _ = o
      have := comp_map h (fun i : Int => .tup [.str "a", .int i]) (by simp [looksB_k]) (fun k hk => by simp [step_k, lim]) (by unfold lim; omega)
      subst this
      simp
      refine ⟨_, ?_, rfl, ds4, rfl⟩
      exact good_map (by omega) (by omega) nd bd (fun i _ => ⟨by show (PyData.strOk "a" && (true && true)) = true; decide +kernel, by show max 0 (max 0 0) + 1 ≤ 1; decide, by show (decide (2 ≤ lim) && (true && (true && true))) = true; decide +kernel⟩) (fun i j _ _ h => by simpa using h)
    · by_cases w3 : w = 3
      · subst w3
        simp
        generalize h : compRun _ _ _ _ _ = o
        have := comp_map h (fun i : Int => .str (strI i)) (by simp [looksB_k]) (fun k hk => by
          have q := bd k hk
          have : k.natAbs.log2 < 1920 := by
            have := Nat.log2_le_self k.natAbs
            omega
          simp [step_k, this, strI]) (by unfold lim; omega)
        subst this
        simp
        refine ⟨_, ?_, rfl, ds4, rfl⟩
        exact good_map (by omega) (by omega) nd bd (fun i hi => ⟨str_ok hi, Nat.zero_le _, rfl⟩) (fun i j hi hj h => str_inj hi hj (by simpa using h))
      · simp [w1, w2, w3]
        exact ⟨_, gi, rfl, ds4, rfl⟩
end Den
set_option Elab.async false
set_option linter.all false
set_option maxRecDepth 100000
set_option autoImplicit false
set_option maxHeartbeats 1000000
namespace Den
open PySem L2
/-! ### choices: a list, a place in it -/
abbrev Pk1 := List D × Nat
def pick1 (p : Pk1) : D := p.1.getD p.2 .non
def PkOk (P : List Pk1) : Prop := ∀ p ∈ P, Good p.1 ∧ p.2 < p.1.length
def ntN (P : List Pk1) : List Nat := (P.filter fun p => decide (1 < p.1.length)).map (·.2)
def ntI (P : List Pk1) : List Int := (ntN P).map fun k : Nat => (k : Int)
theorem Good.okq {l : List D} (g : Good l) : (D.lst l).okq = true := by
  have h1 : ∀ l : List D, (∀ d ∈ l, d.nob = true ∧ d.dep ≤ 1 ∧ d.lens = true) → D.nobs l = true ∧ D.deps l ≤ 1 := by
    intro l
    induction l with
    | nil => intro _; exact ⟨rfl, Nat.zero_le _⟩
    | cons x xs ih =>
      intro h
      obtain ⟨a, b⟩ := ih fun d hd => h d (List.mem_cons_of_mem _ hd)
      obtain ⟨c, d, _⟩ := h x List.mem_cons_self
      exact ⟨by show (x.nob && D.nobs xs) = true; rw [c, a]; rfl, by show max x.dep (D.deps xs) ≤ 1; omega⟩
  obtain ⟨a, b⟩ := h1 l g.nb
  exact data_okq (nob_data (.lst l) a) (by show D.deps l + 1 ≤ 60; omega)
theorem findIdx_nd {l : List D} (g : Good l) {k : Nat} (hk : k < l.length) : (l.findIdx? fun y => D.eqv y l[k]) = some k := by
  rw [List.findIdx?_eq_some_iff_getElem]
  have e : ∀ (j : Nat) (hj : j < l.length), D.eqv l[j] l[k] = decide (l[j] = l[k]) := fun j hj => nob_eqv _ _ (g.nb _ (List.getElem_mem _)).1 (g.nb _ (List.getElem_mem _)).1
  refine ⟨hk, by rw [e k hk]; simp, fun j hj => ?_⟩
  have hj' : j < l.length := by omega
  rw [e j hj']
  simp
  intro z
  have := (List.getElem_inj g.nd).mp z
  omega
theorem index_ok {l : List D} (g : Good l) {k : Nat} (hk : k < l.length) : idxS (.lst l) l[k] = some (.shr (.int k)) := by
  have hd := g.nb l[k] (List.getElem_mem _)
  have okd : (l[k]).okq = true := data_okq (nob_data _ hd.1) (by omega)
  have e : ((l[k].flat && l.all D.flat) || (l[k].okq && (D.lst l).okq)) = true := by rw [okd, g.okq]; simp
  show (if ((l[k].flat && l.all D.flat) || (l[k].okq && (D.lst l).okq)) = true then (l.findIdx? fun y => D.eqv y l[k]).map fun k => SV.shr (.int (k : Nat)) else none) = _
  rw [if_pos e, findIdx_nd g hk]; rfl
theorem pick1_at {p : Pk1} (h : p.2 < p.1.length) : pick1 p = p.1[p.2] := by
  unfold pick1
  rw [List.getD_eq_getElem?_getD, List.getElem?_eq_getElem h]; rfl
theorem zip_picks (P : List Pk1) : List.map (fun p : D × D => D.tup [p.1, p.2]) ((P.map fun p => D.lst p.1).zip (P.map pick1)) = P.map fun p => D.tup [.lst p.1, pick1 p] := by
  induction P with
  | nil => rfl
  | cons p P ih => simp [ih]
theorem nt_fil (P : List Pk1) : (P.filterMap fun p => if 1 < p.1.length then some (D.int p.2) else none) = (ntI P).map .int := by
  unfold ntI ntN
  induction P with
  | nil => rfl
  | cons l ls ih => by_cases h : 1 < l.1.length <;> simp [h, ih]
theorem note_of_ok (n : Nat) (P : List Pk1) (hP : PkOk P) (hz : P.length ≤ 1000) : Pr.call (n+1) F.note_of [.val (.lst (P.map fun p => .lst p.1)), .val (.lst (P.map pick1))] = .ret (.own (.lst ((ntI P).map .int))) [] := by
  rw [call_note_of]
  simp [runF, I_note_of]
  generalize h : compRun _ _ _ _ _ = o
  rw [zip_picks] at h
  have := comp_fil h (fun p : Pk1 => if 1 < p.1.length then some (D.int p.2) else none) (by simp [looksB_k]) (fun p hp => by
    obtain ⟨g, hk⟩ := hP p hp
    have hi := index_ok g hk
    rw [← pick1_at hk] at hi
    by_cases q : 1 < p.1.length
    · have : (1 : Int) < p.1.length := by omega
      simp [step_k, q, this, hi]
    · have : ¬ (1 : Int) < p.1.length := by omega
      simp [step_k, q, this]) (by unfold lim; omega)
  subst this
  rw [nt_fil]
  simp
/-- the places that a note tells -/
def mk : List (List D) → List Int → List Pk1
  | [], _ => []
  | l :: ls, ds => if 1 < l.length then (l, (ds.headD 0).toNat) :: mk ls ds.tail else (l, 0) :: mk ls ds
theorem mk_cons (l : List D) (ls : List (List D)) (ds : List Int) : mk (l :: ls) ds = if 1 < l.length then (l, (ds.headD 0).toNat) :: mk ls ds.tail else (l, 0) :: mk ls ds := rfl
theorem mk_fst : ∀ (ls : List (List D)) (ds : List Int), (mk ls ds).map (·.1) = ls
  | [], _ => rfl
  | l :: ls, ds => by
    unfold mk
    split <;> simp [mk_fst ls]
theorem szs_cons (l : List D) (ls : List (List D)) : szs (l :: ls) = if 1 < l.length then (l.length : Int) :: szs ls else szs ls := by
  unfold szs
  by_cases h : 1 < l.length <;> simp [h]
theorem ntI_cons (p : Pk1) (P : List Pk1) : ntI (p :: P) = if 1 < p.1.length then (p.2 : Int) :: ntI P else ntI P := by
  unfold ntI ntN
  by_cases h : 1 < p.1.length <;> simp [h]
theorem mk_ok : ∀ (ls : List (List D)) (ds : List Int), (∀ l ∈ ls, Good l) → fitB (szs ls) ds = true → PkOk (mk ls ds) ∧ ntI (mk ls ds) = ds
  | [], ds, _, h => by
    cases ds with
    | nil => exact ⟨fun p hp => (by cases hp), rfl⟩
    | cons _ _ => cases h
  | l :: ls, ds, g, h => by
    have gl := g l List.mem_cons_self
    have gls : ∀ l ∈ ls, Good l := fun x hx => g x (List.mem_cons_of_mem _ hx)
    rw [szs_cons] at h
    unfold mk
    by_cases hl : 1 < l.length
    · rw [if_pos hl] at h ⊢
      cases ds with
      | nil => cases h
      | cons d ds =>
        unfold fitB at h
        rw [Bool.and_eq_true, decide_eq_true_eq] at h
        obtain ⟨a, b⟩ := mk_ok ls ds gls h.2
        refine ⟨fun p hp => ?_, ?_⟩
        · rcases List.mem_cons.mp hp with rfl | hp
          · exact ⟨gl, by show d.toNat < l.length; omega⟩
          · exact a p hp
        · rw [ntI_cons, if_pos hl]
          show ((d.toNat : Nat) : Int) :: ntI (mk ls ds) = _
          rw [b]
          congr 1; omega
    · rw [if_neg hl] at h ⊢
      obtain ⟨a, b⟩ := mk_ok ls ds gls h
      refine ⟨fun p hp => ?_, ?_⟩
      · rcases List.mem_cons.mp hp with rfl | hp
        · exact ⟨gl, by have := gl.lo; show 0 < l.length; omega⟩
        · exact a p hp
      · rw [ntI_cons, if_neg hl, b]
theorem fit_nt : ∀ {P : List Pk1}, PkOk P → fitB (szs (P.map (·.1))) (ntI P) = true
  | [], _ => rfl
  | p :: P, h => by
    have ih := fit_nt (P := P) fun q hq => h q (List.mem_cons_of_mem _ hq)
    obtain ⟨g, hk⟩ := h p List.mem_cons_self
    rw [List.map_cons, szs_cons, ntI_cons]
    by_cases hl : 1 < p.1.length
    · rw [if_pos hl, if_pos hl]
      unfold fitB
      rw [ih, decide_eq_true ⟨by omega, by omega⟩]; rfl
    · rw [if_neg hl, if_neg hl, ih]
theorem mk_nt : ∀ {P : List Pk1}, PkOk P → mk (P.map (·.1)) (ntI P) = P
  | [], _ => rfl
  | p :: P, h => by
    have ih := mk_nt (P := P) fun q hq => h q (List.mem_cons_of_mem _ hq)
    obtain ⟨g, hk⟩ := h p List.mem_cons_self
    rw [List.map_cons, ntI_cons]
    unfold mk
    by_cases hl : 1 < p.1.length
    · rw [if_pos hl, if_pos hl]
      show (p.1, ((p.2 : Int)).toNat) :: mk (P.map (·.1)) (ntI P) = _
      rw [ih]; simp
    · rw [if_neg hl, if_neg hl, ih]
      have : p.2 = 0 := by omega
      rw [← this]
/-- how many lists have more items than one -/
def cntL (ls : List (List D)) : Nat := (szs ls).length
theorem cnt_snoc (ls : List (List D)) (l : List D) : cntL (ls ++ [l]) = if 1 < l.length then cntL ls + 1 else cntL ls := by
  unfold cntL szs
  by_cases h : 1 < l.length <;> simp [h]
theorem mk_app : ∀ (pre post : List (List D)) (ds : List Int), mk (pre ++ post) ds = mk pre ds ++ mk post (ds.drop (cntL pre))
  | [], post, ds => by simp [mk, cntL, szs]
  | l :: pre, post, ds => by
    have ih := mk_app pre post
    have e : cntL (l :: pre) = if 1 < l.length then cntL pre + 1 else cntL pre := by
      unfold cntL; rw [szs_cons]; split <;> simp
    rw [List.cons_append, mk_cons, mk_cons, e]
    by_cases hl : 1 < l.length
    · rw [if_pos hl, if_pos hl, if_pos hl, ih]
      cases ds <;> simp
    · rw [if_neg hl, if_neg hl, if_neg hl, ih]; rfl
theorem ntI_app (P Q : List Pk1) : ntI (P ++ Q) = ntI P ++ ntI Q := by unfold ntI ntN; simp
theorem ntI_len (P : List Pk1) : (ntI P).length = cntL (P.map (·.1)) := by
  unfold ntI ntN cntL szs
  induction P with
  | nil => rfl
  | cons p P ih =>
    simp at ih ⊢
    by_cases h : 1 < p.1.length <;> simp [h, ih]
theorem chosen_by_ok (n : Nat) (ls : List (List D)) (ds : List Int) (hg : ∀ l ∈ ls, Good l) (hz : ls.length ≤ 1000) (hd : ds.length ≤ 100000) : Pr.call (n+2) F.chosen_by [.val (.lst (ls.map .lst)), .val (.lst (ds.map .int))] =
    if fitB (szs ls) ds = true then .ret (.own (.lst ((mk ls ds).map pick1))) [] else .ex 1 [] [] := by
  rw [call_chosen_by]
  have h1 := sizes_of_ok n ls hz
  have h2 := check_ok n (szs ls) ds hd
  by_cases hf : fitB (szs ls) ds = true
  · rw [if_pos hf] at h2 ⊢
    simp [runF, I_chosen_by, h1, h2]
    generalize h : forRun _ _ _ _ _ = o
    have := for_thru h (fun pre s => ∃ a, s = ⟨[some (.shr (.lst (ls.map .lst))), some (.shr (.lst (ds.map .int))), some (.own (.lst ((mk pre ds).map pick1))), some (.shr (.int (cntL pre))), a], []⟩) ⟨none, rfl⟩ (fun pre s ⟨a, h⟩ => by simp [looksB_k, h])
      (fun pre l post s hx ⟨a, h⟩ => by
        subst h
        obtain ⟨pok, pnt⟩ := mk_ok ls ds hg hf
        have hlim : (mk pre ds).length < lim := by
          have e1 := congrArg List.length (mk_fst pre ds)
          have e2 := congrArg List.length hx
          simp at e1 e2
          unfold lim; omega
        have e0 : mk ls ds = mk pre ds ++ mk (l :: post) (ds.drop (cntL pre)) := by rw [hx, mk_app]
        have e1 : mk (pre ++ [l]) ds = mk pre ds ++ mk [l] (ds.drop (cntL pre)) := mk_app _ _ _
        rw [mk_cons] at e0 e1
        by_cases hl : 1 < l.length
        · have hl' : (1 : Int) < l.length := by omega
          rw [if_pos hl] at e0 e1
          generalize hk : ((ds.drop (cntL pre)).headD 0).toNat = k at e0 e1
          have hk2 : k < l.length := (pok (l, k) (by rw [e0]; simp)).2
          have e2 : ds[cntL pre]? = some (k : Int) := by
            rw [← pnt, e0, ntI_app, ntI_cons, if_pos hl, List.getElem?_append_right (by rw [ntI_len, mk_fst]; exact Nat.le_refl _), ntI_len, mk_fst]
            simp
          have e3 : l[k]? = some (pick1 (l, k)) := by rw [pick1_at (p := (l, k)) hk2]; exact List.getElem?_eq_getElem hk2
          refine ⟨⟨[some (.shr (.lst (ls.map .lst))), some (.shr (.lst (ds.map .int))), some (.own (.lst ((mk (pre ++ [l]) ds).map pick1))), some (.shr (.int (cntL (pre ++ [l])))), some (.shr (.lst l))], []⟩, ?_, _, rfl⟩
          rw [e1, cnt_snoc, if_pos hl]
          simp [fstep_k, hl', ixI_nat, e2, e3, hlim, mk]
        · have hl' : ¬ (1 : Int) < l.length := by omega
          rw [if_neg hl] at e0 e1
          have hk2 : 0 < l.length := (pok (l, 0) (by rw [e0]; simp)).2
          have e3 : ixI l 0 = some (pick1 (l, 0)) := by
            have := ixI_nat l 0
            rw [pick1_at (p := (l, 0)) hk2]
            exact this.trans (List.getElem?_eq_getElem hk2)
          refine ⟨⟨[some (.shr (.lst (ls.map .lst))), some (.shr (.lst (ds.map .int))), some (.own (.lst ((mk (pre ++ [l]) ds).map pick1))), some (.shr (.int (cntL (pre ++ [l])))), some (.shr (.lst l))], []⟩, ?_, _, rfl⟩
          rw [e1, cnt_snoc, if_neg hl]
          simp [fstep_k, hl', e3, hlim, mk])
    obtain ⟨s', rfl, a, rfl⟩ := this
    simp
  · rw [if_neg hf] at h2 ⊢
    simp [runF, I_chosen_by, h1, h2]
end Den
set_option Elab.async false
set_option linter.all false
set_option maxRecDepth 100000
set_option autoImplicit false
set_option maxHeartbeats 2000000
namespace Den
open PySem L2
theorem chosen_refused_ok (n : Nat) (ls : List (List D)) (ds : List Int) (hg : ∀ l ∈ ls, Good l) (hz : ls.length ≤ 1000) (hd : ds.length ≤ 100000) : Pr.call (n+3) F.L_chosen_refused [.val (.lst (ls.map .lst)), .val (.lst (ds.map .int))] = .ret (.shr (.bl (!fitB (szs ls) ds))) [] := by
  rw [call_L_chosen_refused]
  have := chosen_by_ok n ls ds hg hz hd
  cases hf : fitB (szs ls) ds with
  | true =>
    rw [hf] at this
    simp at this
    simp [runF, I_L_chosen_refused, this]
  | false =>
    rw [hf] at this
    simp [runF, I_L_chosen_refused, this, subT]
theorem same_int (n : Nat) (i j : Int) : Pr.call (n+1) F.L_same [.val (.int i), .val (.int j)] = .ret (.shr (.bl (decide (i = j)))) [] := by
  have := same_ok n 0 (.int i) (.int j) rfl rfl rfl (Nat.zero_le _)
  simpa using this
theorem datas_ints (is : List Int) : D.datas (is.map .int) = true := nobs_data _ (nobs_ints is)
theorem lenss_ints (is : List Int) : D.lenss (is.map .int) = true := by
  induction is with
  | nil => rfl
  | cons i is ih => show (true && D.lenss (is.map .int)) = true; rw [ih]; rfl
theorem same_ints (n : Nat) (is js : List Int) (h : js.length ≤ 100000) : Pr.call (n+2) F.L_same [.val (.lst (is.map .int)), .val (.lst (js.map .int))] = .ret (.shr (.bl (decide (is = js)))) [] := by
  have := same_ok n 1 (.lst (is.map .int)) (.lst (js.map .int)) (datas_ints is) (datas_ints js) (by show (decide ((js.map D.int).length ≤ lim) && D.lenss (js.map .int)) = true; rw [lenss_ints, decide_eq_true (by unfold lim; simp; omega)]; rfl) (by rw [dep_ints]; exact Nat.le_refl _)
  rw [this]
  congr 3
  rw [Bool.eq_iff_iff]; simp [map_int_inj]
theorem alike_ints : ∀ xs ys : List Int, PySem.W.alikeAll (D.pys (xs.map .int)) (D.pys (ys.map .int)) = true
  | [], _ => by rfl
  | _ :: _, [] => by rfl
  | x :: xs, y :: ys => alike_ints xs ys
@[simp] theorem lt_ints (xs ys : List Int) : ltS (.lst (xs.map .int)) (.lst (ys.map .int)) = some (HT.lexLt xs ys) := by
  rw [ltS_lst, dataLt_ints]
  have : D.cmpq (.lst (xs.map .int)) (.lst (ys.map .int)) = true := by
    unfold D.cmpq
    rw [data_okq (d := .lst (xs.map .int)) (datas_ints xs) (by rw [dep_ints]; omega), data_okq (d := .lst (ys.map .int)) (datas_ints ys) (by rw [dep_ints]; omega)]
    show (true && true && PySem.W.alikeAll (D.pys (xs.map .int)) (D.pys (ys.map .int)) && true) = true
    rw [alike_ints]; rfl
  rw [if_pos this]
theorem prod_snoc : ∀ (xs : List Int) (x : Int), prodI (xs ++ [x]) = prodI xs * x
  | [], x => by simp [prodI]
  | y :: ys, x => by
    show y * prodI (ys ++ [x]) = y * prodI ys * x
    rw [prod_snoc ys x, Int.mul_assoc]
theorem fit_snoc : ∀ {ss es : List Int} {s e : Int}, fitB ss es = true → 0 ≤ e ∧ e < s → fitB (ss ++ [s]) (es ++ [e]) = true
  | [], [], s, e, _, h => by show (decide (0 ≤ e ∧ e < s) && true) = true; rw [decide_eq_true h]; rfl
  | s0 :: ss, e0 :: es, s, e, g, h => by
    unfold fitB at g
    rw [Bool.and_eq_true] at g
    show (decide (0 ≤ e0 ∧ e0 < s0) && fitB (ss ++ [s]) (es ++ [e])) = true
    rw [g.1, fit_snoc g.2 h]; rfl
  | [], _ :: _, _, _, g, _ => by cases g
  | _ :: _, [], _, _, g, _ => by cases g
theorem fit_zero : ∀ {ss : List Int}, pos ss → fitB ss (ss.map fun _ => 0) = true ∧ numA 0 ss (ss.map fun _ => 0) = 0
  | [], _ => ⟨rfl, rfl⟩
  | s :: ss, p => by
    obtain ⟨a, b⟩ := fit_zero p.tl
    refine ⟨?_, ?_⟩
    · show (decide ((0 : Int) ≤ 0 ∧ 0 < s) && fitB ss (ss.map fun _ => 0)) = true
      rw [a, decide_eq_true ⟨by omega, p.hd.1⟩]; rfl
    · show numA (0 * s + 0) ss (ss.map fun _ => 0) = 0
      simp [b]
theorem fit_last : ∀ {ss : List Int}, pos ss → fitB ss (ss.map fun s => s - 1) = true ∧ numA 0 ss (ss.map fun s => s - 1) = prodI ss - 1
  | [], _ => ⟨rfl, rfl⟩
  | s :: ss, p => by
    obtain ⟨a, b⟩ := fit_last p.tl
    refine ⟨?_, ?_⟩
    · show (decide ((0 : Int) ≤ s - 1 ∧ s - 1 < s) && fitB ss (ss.map fun s => s - 1)) = true
      rw [a, decide_eq_true ⟨by have := p.hd.1; omega, by omega⟩]; rfl
    · show numA (0 * s + (s - 1)) ss (ss.map fun s => s - 1) = s * prodI ss - 1
      rw [numA_lin _ (by simp), b, Int.add_mul, Int.sub_mul]
      omega
theorem numbers_asked_ok (n : Nat) (ds ss : List Int) (hp : pos ss) (hs : ss.length ≤ 1000) : ∃ ds' : List Int, Pr.call (n+4) F.L_numbers_asked [.bor (.lst (ds.map .int)), .val (.lst (ss.map .int))] = .ret (.shr (.bl true)) [.lst (ds'.map .int)] := by
  rw [call_L_numbers_asked]
  have pp := prod_pos hp
  simp [runF, I_L_numbers_asked]
  generalize h : forRun _ _ _ _ _ = o
  have := for_thru h (fun pre s => ∃ a, s = ⟨[some (.bor 0), some (.shr (.lst (ss.map .int))), some (.shr (.int (prodI pre))), a, none, none, none, none, none, none, none, none], [.lst (ds.map .int)]⟩) ⟨none, rfl⟩ (fun pre s ⟨a, h⟩ => by simp [looksB_k, h])
    (fun pre x post s hx ⟨a, h⟩ => by
      subst h
      have hx' := hp x (by rw [hx]; simp)
      have hm : ∀ z, mulG z x = true := fun z => mulG_r _ _ ⟨by omega, by omega⟩
      exact ⟨_, by simp [fstep_k, hm]; rfl, some (.shr (.int x)), by rw [prod_snoc]⟩)
  obtain ⟨s', rfl, a, rfl⟩ := this
  clear h
  simp
  generalize h : forRun _ _ _ _ _ = o
  have := for_thru h (fun pre s => ∃ (num : Int) (ds' : List Int) (b : Option SV), 0 ≤ num ∧ s = ⟨[some (.bor 0), some (.shr (.lst (ss.map .int))), some (.shr (.int (prodI ss))), a, some (.shr (.int num)), b, none, none, none, none, none, none], [.lst (ds'.map .int)]⟩) ⟨0, ds, none, Int.le_refl _, rfl⟩ (fun pre s ⟨num, ds', b, _, h⟩ => by simp [looksB_k])
    (fun pre x post s hx ⟨num, ds', b, h0, h⟩ => by
      subst h
      obtain ⟨v, ds2, v1, v2, hd⟩ := draw_ex (n+2) ds' 1000 (by omega)
      exact ⟨_, by simp [fstep_k, hd], num * 1000 + v, ds2, some (.shr (.int x)), by omega, rfl⟩)
  obtain ⟨s', rfl, num0, ds1, b, hn0, rfl⟩ := this
  clear h
  have hnum1 := Int.emod_nonneg num0 (show prodI ss ≠ 0 by omega)
  have hnum2 := Int.emod_lt_of_pos num0 pp
  generalize hnm : num0 % prodI ss = num at *
  have c1 := numbered_ok (n+2) ss num hp hs
  rw [if_pos ⟨hnum1, hnum2⟩] at c1
  obtain ⟨ft, q0, eq⟩ := un_spec hp hnum1
  have hr := (un_rest hp hnum1).mpr hnum2
  rw [hr] at eq
  simp only [Int.zero_mul, Int.zero_add] at eq
  generalize (unF ss num).1 = nt at *
  have ntl := fit_len ft
  have c2 := L_digits_ok (n+2) ss nt hs
  rw [ft] at c2
  have c3 := L_number_ok (n+2) ss nt hp hs ntl
  rw [← eq] at c3
  have c4 := note_number_ok (n+1) ss nt hp hs (by omega)
  rw [if_pos ft, ← eq] at c4
  have c5 := same_int (n+2) num num
  simp [pp, hnm, c1, c2, c3, c4, c5]
  -- the next number
  have nxt : ∀ {o : O}, o = (if num + 1 < prodI ss then
            O.wipe [11]
              (seqK (Pr.env (n + 3))
                [C.iff
                    ((T.x (X.call F.L_digits [false, false] (XS.cons (X.var 1) (XS.cons (X.var 11) XS.nil)))).not.or
                      (T.cmp Op.lt (X.var 6) (X.var 11)).not)
                    [C.ret (X.bl false)] [] []]
                (setfK 11
                  (callR [false, false] [PV.at 1, PV.val (D.int (num + 1))]
                    ⟨[some (SV.bor 0), some (SV.shr (D.lst (List.map D.int ss))), some (SV.shr (D.int (prodI ss))),
                          a, some (SV.shr (D.int num)), none, some (SV.shr (D.lst (List.map D.int nt))), none, none,
                          none, none, none], [D.lst (List.map D.int ds1)]⟩
                    (Pr.call (n + 3) F.numbered_note [Arg.val (D.lst (List.map D.int ss)), Arg.val (D.int (num + 1))]))))
          else
            O.nx ⟨[some (SV.bor 0), some (SV.shr (D.lst (List.map D.int ss))), some (SV.shr (D.int (prodI ss))), a,
                    some (SV.shr (D.int num)), none, some (SV.shr (D.lst (List.map D.int nt))), none, none, none, none, none], [D.lst (List.map D.int ds1)]⟩) →
      o = O.nx ⟨[some (SV.bor 0), some (SV.shr (D.lst (List.map D.int ss))), some (SV.shr (D.int (prodI ss))), a,
                    some (SV.shr (D.int num)), none, some (SV.shr (D.lst (List.map D.int nt))), none, none, none, none, none], [D.lst (List.map D.int ds1)]⟩ := by
    intro o h
    subst h
    by_cases hlt : num + 1 < prodI ss
    · have d1 := numbered_ok (n+2) ss (num + 1) hp hs
      rw [if_pos ⟨by omega, hlt⟩] at d1
      obtain ⟨ft2, _, eq2⟩ := un_spec hp (show 0 ≤ num + 1 by omega)
      rw [(un_rest hp (show 0 ≤ num + 1 by omega)).mpr hlt] at eq2
      simp only [Int.zero_mul, Int.zero_add] at eq2
      generalize (unF ss (num + 1)).1 = nt2 at *
      have d2 := L_digits_ok (n+2) ss nt2 hs
      rw [ft2] at d2
      have d3 : HT.lexLt nt nt2 = true := (num_lt hp ft ft2).mpr (by omega)
      simp [hlt, d1, d2, d3]
    · simp [hlt]
  generalize ho : ite (num + 1 < prodI ss) _ _ = o
  have := nxt ho.symm
  subst this
  clear ho nxt
  simp
  generalize h : compRun _ _ _ _ _ = o
  have := comp_inv h (fun pre out s => ∃ (es ds' : List Int), out = es.map .int ∧ fitB pre es = true ∧ s = ⟨[some (SV.bor 0), some (SV.shr (D.lst (List.map D.int ss))), some (SV.shr (D.int (prodI ss))), none,
                    some (SV.shr (D.int num)), none, some (SV.shr (D.lst (List.map D.int nt))), none, none, none, none, none], [D.lst (List.map D.int ds')]⟩) ⟨[], ds1, rfl, rfl, rfl⟩ (fun pre out s ⟨es, ds', _, _, h⟩ => by simp [looksB_k, h])
    (fun pre x post out s hx ⟨es, ds', e1, e2, h⟩ => by
      subst h e1
      obtain ⟨v, ds2, v1, v2, hd⟩ := draw_ex (n+2) ds' x (hp x (by rw [hx]; simp)).1
      exact .inl ⟨.int v, _, by simp [step_k, hd], es ++ [v], ds2, by simp, fit_snoc e2 ⟨v1, v2⟩, rfl⟩) (by unfold lim; omega)
  obtain ⟨out, s', rfl, ot, ds2, rfl, fo, rfl⟩ := this
  clear h
  have otl := fit_len fo
  have e1 := note_number_ok (n+1) ss ot hp hs (by omega)
  rw [if_pos fo] at e1
  have e2 := L_number_ok (n+2) ss ot hp hs otl
  have e3 := same_int (n+2) (numA 0 ss ot) (numA 0 ss ot)
  have e4 : HT.lexLt ot nt = decide (numA 0 ss ot < num) := by
    rw [Bool.eq_iff_iff, num_lt hp fo ft, decide_eq_true_eq, eq]
  obtain ⟨ds3, nn, e5, e6⟩ := near_ok (n+1) ds2 ss ot otl.symm (by omega)
  have e7 := L_digits_ok (n+2) ss nn hs
  have e8 := number_refused_ok n ss nn hp hs (by omega)
  have e9 := note_number_ok (n+1) ss nn hp hs (by omega)
  have fB : ∀ x : Int, ¬ (0 ≤ x ∧ x < prodI ss) → Pr.call (n+3) F.L_numbered_refused [.val (.lst (ss.map .int)), .val (.int x)] = .ret (.shr (.bl true)) [] := fun x hx => by
    have := numbered_refused_ok (n+1) ss x hp hs
    rw [decide_eq_false hx] at this
    exact this
  have f1 := fB (prodI ss) (by omega)
  have f2 := fB (prodI ss + num) (by omega)
  have f3 := fB (-1) (by omega)
  have f4 := fB (-1 - num) (by omega)
  have z1 := numbered_ok (n+2) ss 0 hp hs
  rw [if_pos ⟨Int.le_refl _, pp⟩] at z1
  obtain ⟨z2, z3⟩ := fit_zero hp
  have z4 := un_num hp z2
  rw [z3] at z4
  rw [z4] at z1
  have z5 := same_ints (n+1) (ss.map fun _ => 0) (ss.map fun _ => 0) (by simp; omega)
  have y1 := numbered_ok (n+2) ss (prodI ss - 1) hp hs
  rw [if_pos ⟨by omega, by omega⟩] at y1
  obtain ⟨y2, y3⟩ := fit_last hp
  have y4 := un_num hp y2
  rw [y3] at y4
  rw [y4] at y1
  have y5 := same_ints (n+1) (ss.map fun s => s - 1) (ss.map fun s => s - 1) (by simp; omega)
  have g1 : fitB ss nn = true → Pr.call (n+3) F.numbered_note [.val (.lst (ss.map .int)), .val (.int (numA 0 ss nn))] = .ret (.own (.lst (nn.map .int))) [] := fun hf => by
    obtain ⟨q1, q2⟩ := num_b hp hf
    have := numbered_ok (n+2) ss (numA 0 ss nn) hp hs
    rw [if_pos ⟨q1, q2⟩, un_num hp hf] at this
    exact this
  have g2 := same_ints (n+1) nn nn (by omega)
  simp only [decide_true] at e3 z5 y5 g2
  simp only [List.map_map, Function.comp_def] at z1 z5 y1 y5
  cases hf : fitB ss nn
  · rw [hf] at e7 e8
    simp [e1, e2, e3, e4, e5, e7, e8, forRun_cons, fstep_k, looksB_k, f1, f2, f3, f4, z1]
    generalize h : compRun _ _ _ _ _ = o
    have := comp_map h (fun _ : Int => D.int 0) (by simp [looksB_k]) (fun x hx => by simp [step_k]) (by unfold lim; omega)
    subst this
    simp [z5, y1]
    generalize h : compRun _ _ _ _ _ = o
    have := comp_map h (fun x : Int => D.int (x - 1)) (by simp [looksB_k]) (fun x hx => by
      have := hp x hx; simp [step_k]) (by unfold lim; omega)
    subst this
    simp [y5]
    exact ⟨ds3, rfl⟩
  · rw [hf] at e7 e9
    have g1 := g1 hf
    simp at e9
    simp [e1, e2, e3, e4, e5, e7, e9, g1, g2, forRun_cons, fstep_k, looksB_k, f1, f2, f3, f4, z1]
    generalize h : compRun _ _ _ _ _ = o
    have := comp_map h (fun _ : Int => D.int 0) (by simp [looksB_k]) (fun x hx => by simp [step_k]) (by unfold lim; omega)
    subst this
    simp [z5, y1]
    generalize h : compRun _ _ _ _ _ = o
    have := comp_map h (fun x : Int => D.int (x - 1)) (by simp [looksB_k]) (fun x hx => by
      have := hp x hx; simp [step_k]) (by unfold lim; omega)
    subst this
    simp [y5]
    exact ⟨ds3, rfl⟩
end Den
set_option Elab.async false
set_option linter.all false
set_option maxRecDepth 100000
set_option autoImplicit false
set_option maxHeartbeats 4000000
namespace Den
open PySem L2
def Lists (P : List Pk1) : List D := P.map fun p => .lst p.1
def Chs (P : List Pk1) : List D := P.map pick1
def Idx (P : List Pk1) : List D := P.map fun p => .int p.2
theorem Lists_eq (P : List Pk1) : List.map D.lst (P.map fun p => p.1) = Lists P := by unfold Lists; simp
theorem Idx_eq (P : List Pk1) : P.map (fun p => D.int p.2) = Idx P := rfl
@[simp] theorem Lists_len (P : List Pk1) : (Lists P).length = P.length := by unfold Lists; simp
@[simp] theorem Chs_len (P : List Pk1) : (Chs P).length = P.length := by unfold Chs; simp
@[simp] theorem Idx_len (P : List Pk1) : (Idx P).length = P.length := by unfold Idx; simp
theorem range_getD {α β : Type} (P : List α) (d : α) (f : α → β) : (List.range P.length).map (fun k => f ((P[k]?.getD d))) = P.map f := by
  refine List.ext_getElem (by simp) fun i h1 h2 => ?_
  simp at h1
  simp [h1]
theorem range_fil {α β : Type} (P : List α) (d : α) (f : α → Option β) : (List.range P.length).filterMap (fun k => f ((P[k]?.getD d))) = P.filterMap f := by
  have := congrArg (List.filterMap f) (range_getD P d id)
  rw [List.filterMap_map, List.map_id] at this
  exact this
theorem at_k {P : List Pk1} (hP : PkOk P) {k : Nat} (hk : k ∈ List.range P.length) : ∃ p, P[k]?.getD ([], 0) = p ∧ p ∈ P ∧ ixI (Lists P) (k : Int) = some (.lst p.1) ∧ ixI (Idx P) (k : Int) = some (.int p.2) ∧ ixI p.1 (p.2 : Int) = some (pick1 p) := by
  have hk' : k < P.length := List.mem_range.mp hk
  have m := List.getElem_mem hk'
  refine ⟨P[k], by simp [hk'], m, ?_, ?_, ?_⟩
  · rw [ixI_nat]; unfold Lists; simp [hk']
  · rw [ixI_nat]; unfold Idx; simp [hk']
  · have := (hP _ m).2
    rw [ixI_nat, pick1_at this]; exact List.getElem?_eq_getElem this
theorem goods_q : ∀ {P : List Pk1}, PkOk P → (D.nobs (Lists P) = true ∧ D.lenss (Lists P) = true ∧ D.deps (Lists P) ≤ 2) ∧ D.nobs (Chs P) = true ∧ D.lenss (Chs P) = true ∧ D.deps (Chs P) ≤ 1
  | [], _ => ⟨⟨rfl, rfl, Nat.zero_le _⟩, rfl, rfl, Nat.zero_le _⟩
  | p :: P, h => by
    obtain ⟨⟨a, b, c⟩, d, e, f⟩ := goods_q (P := P) fun q hq => h q (List.mem_cons_of_mem _ hq)
    obtain ⟨g, hk⟩ := h p List.mem_cons_self
    have h1 : ∀ l : List D, (∀ d ∈ l, d.nob = true ∧ d.dep ≤ 1 ∧ d.lens = true) → D.nobs l = true ∧ D.lenss l = true ∧ D.deps l ≤ 1 := by
      intro l
      induction l with
      | nil => intro _; exact ⟨rfl, rfl, Nat.zero_le _⟩
      | cons x xs ih =>
        intro h
        obtain ⟨a, a2, b⟩ := ih fun d hd => h d (List.mem_cons_of_mem _ hd)
        obtain ⟨c, d, e⟩ := h x List.mem_cons_self
        exact ⟨by show (x.nob && D.nobs xs) = true; rw [c, a]; rfl, by show (x.lens && D.lenss xs) = true; rw [e, a2]; rfl, by show max x.dep (D.deps xs) ≤ 1; omega⟩
    obtain ⟨x, y, z⟩ := h1 p.1 g.nb
    have gg := g.nb (pick1 p) (by rw [pick1_at hk]; exact List.getElem_mem _)
    have gh := g.hi
    refine ⟨⟨?_, ?_, ?_⟩, ?_, ?_, ?_⟩
    · show (D.nobs p.1 && D.nobs (Lists P)) = true; rw [x, a]; rfl
    · show ((decide (p.1.length ≤ lim) && D.lenss p.1) && D.lenss (Lists P)) = true; rw [y, b, decide_eq_true (by unfold lim; omega)]; rfl
    · show max (D.deps p.1 + 1) (D.deps (Lists P)) ≤ 2; omega
    · show ((pick1 p).nob && D.nobs (Chs P)) = true; rw [gg.1, d]; rfl
    · show ((pick1 p).lens && D.lenss (Chs P)) = true; rw [gg.2.2, e]; rfl
    · show max (pick1 p).dep (D.deps (Chs P)) ≤ 1; omega
theorem same_lists (n : Nat) {P : List Pk1} (h : PkOk P) (hl : P.length ≤ 1000) : Pr.call (n+4) F.L_same [.val (.lst (Lists P)), .val (.lst (Lists P))] = .ret (.shr (.bl true)) [] := by
  obtain ⟨⟨a, b, c⟩, d, e, f⟩ := goods_q h
  have := same_ok n 3 (.lst (Lists P)) (.lst (Lists P)) (nobs_data _ a) (nobs_data _ a) (by show (decide ((Lists P).length ≤ lim) && D.lenss (Lists P)) = true; rw [b, decide_eq_true (by unfold lim; simp; omega)]; rfl) (by show D.deps (Lists P) + 1 ≤ 3; omega)
  rw [decide_eq_true rfl] at this
  exact this
theorem same_chs (n : Nat) {P : List Pk1} (h : PkOk P) (hl : P.length ≤ 1000) : Pr.call (n+3) F.L_same [.val (.lst (Chs P)), .val (.lst (Chs P))] = .ret (.shr (.bl true)) [] := by
  obtain ⟨⟨a, b, c⟩, d, e, f⟩ := goods_q h
  have := same_ok n 2 (.lst (Chs P)) (.lst (Chs P)) (nobs_data _ d) (nobs_data _ d) (by show (decide ((Chs P).length ≤ lim) && D.lenss (Chs P)) = true; rw [e, decide_eq_true (by unfold lim; simp; omega)]; rfl) (by show D.deps (Chs P) + 1 ≤ 2; omega)
  rw [decide_eq_true rfl] at this
  exact this
theorem szs_pos {P : List Pk1} (h : PkOk P) : pos (szs (P.map (·.1))) ∧ (szs (P.map (·.1))).length ≤ P.length := by
  unfold szs
  refine ⟨fun s hs => ?_, ?_⟩
  · simp at hs
    obtain ⟨l, ⟨⟨k, hm⟩, q⟩, rfl⟩ := hs
    have := (h _ hm).1.hi
    simp at this
    omega
  · simp
    exact Nat.le_trans (List.length_filter_le _ _) (by simp)
theorem law_ok (n : Nat) (ns : List Int) (hn : ns.length ≤ 63) : Pr.call (n+6) F.law [.val (.frl (ns.map .int))] = .ret (.shr (.bl true)) [] := by
  rw [call_law]
  have mv1 : ∀ s : S, s.moves [] = some s := fun s => rfl
  obtain ⟨ds0, d0⟩ := draws_ok (n+4) ns hn
  obtain ⟨k, ds1, hk, d1⟩ := pick_ok (n+3) ds0 [2, 0, 1, 3, 4, 5, 6] (by decide)
  have k0 : 0 ≤ k ∧ k ≤ 6 := by simp at hk; omega
  obtain ⟨k, rfl⟩ := Int.eq_ofNat_of_zero_le k0.1
  have k62 : (k : Int) < 4611686018427387904 := by omega
  simp at d1
  simp [runF, I_law, d0, d1, k62]
  generalize h : compRun _ _ _ _ _ = o
  have := comp_inv h (fun pre out s => ∃ (ls : List (List D)) (ds' : List Int), out = ls.map .lst ∧ (∀ l ∈ ls, Good l) ∧ ls.length = pre.length ∧ s = ⟨[some (.shr (.frl (ns.map .int))), some (.own (.lst (ds'.map .int))), none, none, none, none, none, none, none, none, none, none, none, none, none, none, none, none], []⟩) ⟨[], ds1, rfl, fun _ h => (by cases h), rfl, rfl⟩ (fun pre out s ⟨ls, ds', _, _, _, h⟩ => by simp [looksB_k, h])
    (fun pre x post out s hx ⟨ls, ds', e1, e2, e3, h⟩ => by
      subst h e1
      obtain ⟨l, ds2, g, hd⟩ := list_ok (n+2) ds'
      refine .inl ⟨.lst l, _, by simp [step_k, hd, mv1], ls ++ [l], ds2, by simp, fun y hy => ?_, by simp [e3], rfl⟩
      rcases List.mem_append.mp hy with hy | hy
      · exact e2 y hy
      · rw [List.mem_singleton.mp hy]; exact g) (by unfold lim; simp; omega)
  obtain ⟨out, s', rfl, ls, ds2, rfl, gl, lk, rfl⟩ := this
  clear h
  rw [List.length_range] at lk
  simp
  generalize h : compRun _ _ _ _ _ = o
  have := comp_inv h (fun pre out s => ∃ (P : List Pk1) (ds' : List Int), out = P.map (fun p => .int p.2) ∧ PkOk P ∧ P.map (·.1) = pre ∧ s = ⟨[some (.shr (.frl (ns.map .int))), some (.own (.lst (ds'.map .int))), some (.shr (.lst (ls.map .lst))), none, none, none, none, none, none, none, none, none, none, none, none, none, none, none], []⟩) ⟨[], ds2, rfl, fun _ h => (by cases h), rfl, rfl⟩ (fun pre out s ⟨ls, ds', _, _, _, h⟩ => by simp [looksB_k, h])
    (fun pre l post out s hx ⟨P, ds', e1, e2, e3, h⟩ => by
      subst h e1
      have g := gl l (by rw [hx]; simp)
      have hl := g.hi
      have hl2 : (l.length : Int) < 4611686018427387904 := by omega
      obtain ⟨v, ds2, v1, v2, hd⟩ := draw_ex (n+4) ds' l.length (by have := g.lo; omega)
      obtain ⟨v, rfl⟩ := Int.eq_ofNat_of_zero_le v1
      refine .inl ⟨.int v, _, by simp [step_k, hd], P ++ [(l, v)], ds2, by simp, fun y hy => ?_, by simp [e3], rfl⟩
      rcases List.mem_append.mp hy with hy | hy
      · exact e2 y hy
      · rw [List.mem_singleton.mp hy]; exact ⟨g, by show v < l.length; omega⟩) (by unfold lim; omega)
  obtain ⟨out, s', rfl, P, ds3, rfl, hP, rfl, rfl⟩ := this
  rw [List.length_map] at lk
  have hk62 : (P.length : Int) < 4611686018427387904 := by omega
  clear h
  rw [Lists_eq, Idx_eq]
  simp [hk62]
  clear ds0 d0 ds1 hk d1 ds2
  generalize h : compRun _ _ _ _ _ = o
  have := comp_map h (fun k => pick1 (P[k]?.getD ([], 0))) (by simp [looksB_k]) (fun k hk => by
    obtain ⟨p, e0, e1, e2, e3, e4⟩ := at_k hP hk
    simp [step_k, e0, e2, e3, e4]) (by unfold lim; simp; omega)
  rw [range_getD P ([], 0) pick1] at this
  subst this
  clear h
  simp [hk62]
  rw [show List.map pick1 P = Chs P from rfl]
  generalize h : compRun _ _ _ _ _ = o
  have := comp_fil (f := fun p : Pk1 => D.lst p.1) h (fun p : Pk1 => if 1 < p.1.length then some (D.int (p.1.length : Int)) else none) (by simp [looksB_k]) (fun p hp => by
    have hh := (hP p hp).1.hi
    have h62 : (p.1.length : Int) < 4611686018427387904 := by omega
    by_cases q : 1 < p.1.length
    · have : (1 : Int) < p.1.length := by omega
      simp [step_k, q, this]
    · have : ¬ (1 : Int) < p.1.length := by omega
      simp [step_k, q, this]) (by unfold lim; omega)
  subst this
  have szf : (P.filterMap fun p : Pk1 => if 1 < p.1.length then some (D.int (p.1.length : Int)) else none) = (szs (P.map (·.1))).map .int := by
    rw [← szs_fil, List.filterMap_map]; rfl
  rw [szf]
  clear h szf
  generalize hss : szs (P.map (·.1)) = ss
  simp [hk62]
  generalize h : compRun _ _ _ _ _ = o
  have := comp_fil h (fun k => (fun p : Pk1 => if 1 < p.1.length then some (D.int p.2) else none) (P[k]?.getD ([], 0))) (by simp [looksB_k]) (fun k hk => by
    obtain ⟨p, e0, e1, e2, e3, e4⟩ := at_k hP hk
    rw [e0]
    by_cases q : 1 < p.1.length
    · have : (1 : Int) < p.1.length := by omega
      simp [step_k, e2, e3, e4, q, this]
    · have : ¬ (1 : Int) < p.1.length := by omega
      simp [step_k, e2, e3, e4, q, this]) (by unfold lim; simp; omega)
  rw [range_fil P ([], 0) (fun p : Pk1 => if 1 < p.1.length then some (D.int p.2) else none), nt_fil] at this
  subst this
  clear h
  generalize hnt : ntI P = nt
  simp
  generalize h : compRun _ _ _ _ _ = o
  have := comp_map (f := fun p : Pk1 => D.lst p.1) h (fun p : Pk1 => D.lst p.1) (by simp [looksB_k]) (fun p hp => by
    simp [step_k]) (by unfold lim; omega)
  rw [show List.map (fun p : Pk1 => D.lst p.1) P = Lists P from rfl] at this
  subst this
  clear h
  simp
  generalize h : forRun _ _ _ _ _ = o
  obtain ⟨hp, hs⟩ := szs_pos hP
  have ft := fit_nt hP
  have mkn := mk_nt hP
  have szok := sizes_of_ok (n+4) (P.map (·.1)) (by simp; omega)
  have ntok := note_of_ok (n+4) P hP (by omega)
  have chok := chosen_by_ok (n+3) (P.map (·.1)) (ntI P) gl (by simp; omega) (by rw [fit_len ft]; omega)
  rw [if_pos ft, mkn, Lists_eq] at chok
  rw [Lists_eq] at szok
  rw [show (P.map fun p : Pk1 => D.lst p.1) = Lists P from rfl, show P.map pick1 = Chs P from rfl] at ntok
  rw [show P.map pick1 = Chs P from rfl] at chok
  rw [hss] at szok hp hs ft
  rw [hnt] at ntok chok ft
  have s1 := same_ints (n+3) ss ss (by omega)
  have s2 := same_ints (n+3) nt nt (by rw [fit_len ft]; omega)
  have s3 := same_chs (n+2) hP (by omega)
  have s4 := same_lists (n+1) hP (by omega)
  simp only [decide_true] at s1 s2
  have ntl := fit_len ft
  have := for_thru h (fun pre s => ∃ a b c d, s = ⟨[some (.shr (.frl (ns.map .int))), some (.own (.lst (ds3.map .int))), some (.shr (.lst (Lists P))), some (.shr (.lst (Idx P))), some (.shr (.lst (Chs P))), some (.shr (.lst (ss.map .int))), some (.shr (.lst (nt.map .int))), some (.shr (.lst (Lists P))), some (.shr (.lst (Chs P))), some (.shr (.lst (nt.map .int))), b, none, none, none, none, a, c, d], []⟩) ⟨none, none, none, none, rfl⟩ (fun pre s ⟨a, b, c, d, h⟩ => by simp [looksB_k, h])
    (fun pre x post s hx ⟨a, b, c, d, h⟩ => by
      subst h
      have l1 : ss.length < lim := by unfold lim; omega
      have l2 : nt.length < lim := by unfold lim; omega
      have l3 : P.length < lim := by unfold lim; omega
      exact ⟨_, by simp [fstep_k, szok, ntok, chok, s1, s2, s3, mv1, l1, l2, l3]; exact ⟨rfl, rfl, rfl, rfl⟩, _, _, _, _, rfl⟩)
  obtain ⟨s', rfl, a, b, c, d, rfl⟩ := this
  clear h
  obtain ⟨ds4, nn, e5, e6⟩ := near_ok (n+3) ds3 ss nt ntl.symm (by omega)
  have e7 := L_digits_ok (n+4) ss nn (by omega)
  have e8 := chosen_refused_ok (n+2) (P.map (·.1)) nn gl (by simp; omega) (by omega)
  rw [Lists_eq, hss] at e8
  have e9 := chosen_by_ok (n+3) (P.map (·.1)) nn gl (by simp; omega) (by omega)
  rw [Lists_eq, hss] at e9
  have e10 : fitB ss nn = true → Pr.call (n+5) F.note_of [.val (.lst (Lists P)), .val (.lst ((mk (P.map (·.1)) nn).map pick1))] = .ret (.own (.lst (nn.map .int))) [] := fun hf => by
    obtain ⟨q1, q2⟩ := mk_ok (P.map (·.1)) nn gl (by rw [hss]; exact hf)
    have q3 := congrArg List.length (mk_fst (P.map (·.1)) nn)
    have := note_of_ok (n+4) (mk (P.map (·.1)) nn) q1 (by simp at q3; omega)
    rw [q2] at this
    rw [← Lists_eq P, ← mk_fst (P.map (·.1)) nn, List.map_map]
    rw [mk_fst]
    exact this
  have e11 := same_ints (n+3) nn nn (by omega)
  simp only [decide_true] at e11
  have e12 := L_number_ok (n+4) ss nt hp (by omega) ntl
  have e13 := numbered_ok (n+4) ss (numA 0 ss nt) hp (by omega)
  rw [if_pos (num_b hp ft), un_num hp ft] at e13
  simp [e5, e7]
  generalize ho : ite (fitB ss nn = false) _ _ = o
  have : o = .nx ⟨[some (.shr (.frl (ns.map .int))), some (.own (.lst (ds4.map .int))), some (.shr (.lst (Lists P))), some (.shr (.lst (Idx P))), some (.shr (.lst (Chs P))), some (.shr (.lst (ss.map .int))), some (.shr (.lst (nt.map .int))), some (.shr (.lst (Lists P))), some (.shr (.lst (Chs P))), some (.shr (.lst (nt.map .int))), none, some (.shr (.lst (nn.map .int))), none, none, none, a, none, none], []⟩ := by
    subst ho
    cases hf : fitB ss nn
    · rw [hf] at e8
      simp [e8]
    · rw [hf] at e9
      simp at e9
      simp [e9, e10 hf, e11]
  subst this
  clear ho
  obtain ⟨k2, ds5, hk2, d5⟩ := pick_ok (n+3) ds4 [3, 0, 1, 2, 4, 5, 6] (by decide)
  have k20 : 0 ≤ k2 ∧ k2 ≤ 6 := by simp at hk2; omega
  obtain ⟨k2, rfl⟩ := Int.eq_ofNat_of_zero_le k20.1
  have k262 : (k2 : Int) < 4611686018427387904 := by omega
  simp at d5
  simp
  generalize h : forRun _ _ _ _ _ = o
  have := for_thru h (fun pre s => ∃ a b, s = ⟨[some (.shr (.frl (ns.map .int))), some (.own (.lst (ds4.map .int))), some (.shr (.lst (Lists P))), some (.shr (.lst (Idx P))), some (.shr (.lst (Chs P))), some (.shr (.lst (ss.map .int))), some (.shr (.lst (nt.map .int))), some (.shr (.lst (Lists P))), some (.shr (.lst (Chs P))), some (.shr (.lst (nt.map .int))), b, some (.shr (.lst (nn.map .int))), none, none, none, a, none, none], []⟩) ⟨a, none, rfl⟩ (fun pre s ⟨a, b, h⟩ => by simp [looksB_k, h])
    (fun pre x post s hx ⟨a, b, h⟩ => by
      subst h
      have l2 : nt.length < lim := by unfold lim; omega
      exact ⟨_, by simp [fstep_k, e12, e13, s2, l2]; exact ⟨rfl, rfl⟩, _, _, rfl⟩)
  obtain ⟨s', rfl, a1, b1, rfl⟩ := this
  clear h
  simp [d5, k262]
  generalize h : forRun _ _ _ _ _ = o
  have := for_thru h (fun pre s => ∃ (b : Option SV) (ws ds' : List Int), pos ws ∧ ws.length = pre.length ∧ s = ⟨[some (.shr (.frl (ns.map .int))), some (.own (.lst (ds'.map .int))), some (.shr (.lst (Lists P))), some (.shr (.lst (Idx P))), some (.shr (.lst (Chs P))), some (.shr (.lst (ss.map .int))), some (.shr (.lst (nt.map .int))), some (.shr (.lst (Lists P))), some (.shr (.lst (Chs P))), some (.shr (.lst (nt.map .int))), none, some (.shr (.lst (nn.map .int))), some (.own (.lst (ws.map .int))), b, none, none, none, none], []⟩) ⟨none, [], ds5, fun _ h => (by cases h), rfl, rfl⟩ (fun pre s ⟨b, ws, ds', _, _, h⟩ => by simp [looksB_k, h])
    (fun pre x post s hx ⟨b, ws, ds', hw, hwl, h⟩ => by
      subst h
      obtain ⟨m, ds6, hm, d6⟩ := pick_ok (n+3) ds' [4, 1000, 1] (by decide)
      have hm0 : 0 < m ∧ m ≤ 1000 := by simp at hm; omega
      obtain ⟨v, ds7, v1, v2, d7⟩ := draw_ex (n+4) ds6 m hm0.1
      simp at d6
      have e := congrArg List.length hx
      have l2 : ws.length < lim := by unfold lim; simp at e; omega
      exact ⟨_, by simp [fstep_k, d6, d7, l2]; rfl, _, ws ++ [1 + v], ds7, fun y hy => (by
        rcases List.mem_append.mp hy with hy | hy
        · exact hw y hy
        · rw [List.mem_singleton.mp hy]; omega), by simp [hwl], by simp; rfl⟩)
  obtain ⟨s', rfl, b2, ws, ds6, hw, hwl, rfl⟩ := this
  clear h
  rw [List.length_range] at hwl
  obtain ⟨ds7, q1⟩ := numbers_asked_ok (n+1) ds6 ss hp (by omega)
  obtain ⟨ds8, q2⟩ := numbers_asked_ok (n+1) ds7 ws hw (by omega)
  have q3 := same_ints (n+3) ws ws (by omega)
  simp only [decide_true] at q3
  have l1 : ws.length ≤ lim := by unfold lim; omega
  simp [q1, q2, q3, s4, s3, s2, l1]
end Den
set_option autoImplicit false
namespace Den
theorem law_true : ∀ ns : List Int, ns.length ≤ 63 → (∀ z ∈ ns, PySem.Builtin.Int.intBits z ≤ 1048576) → Pr.call 12 F.law [.val (.frl (ns.map .int))] = .ret (.shr (.bl true)) [] :=
  fun ns h _ => law_ok 6 ns h
end Den
set_option Elab.async false
set_option linter.all false
set_option maxRecDepth 100000
set_option autoImplicit false
set_option maxHeartbeats 4000000
namespace Den
open PySem PySem.Spec PyProof.Rows L2
theorem law_all {K : PySem.W.Frag} {mg : Str → Option Value} {h : Heap} {l : PySem.W.OpenLaw} {w : World} {fa C0 C1 C2 : Addr}
  (X : K.In h) (G : h.Ns mainGlobals mg) (hfa : mg "law" = some (.ref fa))
  (e0 : ExcAt K "FormroadsError" C0)
  (e1 : ExcAt K "InvalidNote" C1)
  (e2 : ExcAt K "Unreached" C2)
  (s_0_0 : PySem.W.subIn K (.ref C0) (.ref C0) = some true)
  (s_0_1 : PySem.W.subIn K (.ref C0) (.ref C1) = some false)
  (s_0_2 : PySem.W.subIn K (.ref C0) (.ref C2) = some false)
  (s_1_0 : PySem.W.subIn K (.ref C1) (.ref C0) = some true)
  (s_1_1 : PySem.W.subIn K (.ref C1) (.ref C1) = some true)
  (s_1_2 : PySem.W.subIn K (.ref C1) (.ref C2) = some false)
  (s_2_0 : PySem.W.subIn K (.ref C2) (.ref C0) = some true)
  (s_2_1 : PySem.W.subIn K (.ref C2) (.ref C1) = some false)
  (s_2_2 : PySem.W.subIn K (.ref C2) (.ref C2) = some true)
  (z0 : PySem.W.nsIn K mainGlobals "ValueError" = some none)
  (z1 : PySem.W.nsIn K mainGlobals "all" = some none)
  (z2 : PySem.W.nsIn K mainGlobals "bool" = some none)
  (z3 : PySem.W.nsIn K mainGlobals "divmod" = some none)
  (z4 : PySem.W.nsIn K mainGlobals "int" = some none)
  (z5 : PySem.W.nsIn K mainGlobals "isinstance" = some none)
  (z6 : PySem.W.nsIn K mainGlobals "len" = some none)
  (z7 : PySem.W.nsIn K mainGlobals "list" = some none)
  (z8 : PySem.W.nsIn K mainGlobals "range" = some none)
  (z9 : PySem.W.nsIn K mainGlobals "reversed" = some none)
  (z10 : PySem.W.nsIn K mainGlobals "str" = some none)
  (z11 : PySem.W.nsIn K mainGlobals "tuple" = some none)
  (z12 : PySem.W.nsIn K mainGlobals "zip" = some none)
  (d0 : DefAt K "sizes_of" (topS 5))
  (d1 : DefAt K "note_of" (topS 6))
  (d2 : DefAt K "chosen_by" (topS 7))
  (d3 : DefAt K "note_number" (topS 8))
  (d4 : DefAt K "numbered_note" (topS 9))
  (d5 : DefAt K "_check_note" (topS 10))
  (d6 : DefAt K "_law_draws" (topS 12))
  (d7 : DefAt K "_law_draw" (topS 13))
  (d8 : DefAt K "_law_pick" (topS 14))
  (d9 : DefAt K "_law_same" (topS 15))
  (d10 : DefAt K "_law_list" (topS 16))
  (d11 : DefAt K "_law_near" (topS 17))
  (d12 : DefAt K "_law_digits" (topS 18))
  (d13 : DefAt K "_law_number" (topS 19))
  (d14 : DefAt K "_law_chosen_refused" (topS 20))
  (d15 : DefAt K "_law_number_refused" (topS 21))
  (d16 : DefAt K "_law_numbered_refused" (topS 22))
  (d17 : DefAt K "_law_numbers_asked" (topS 23))
  (d18 : DefAt K "law" (topS 24)) :
    ∃ fd : FuncData, (∀ (s : Shared) (v : Value), BindsTo s fd ⟨[v], []⟩ [("_law_script", v)]) ∧ ∀ base : Heap, K.In base → base.Ns mainGlobals mg → FnOk l.prog w K mg base (L2.CX l.prog w) (2 * 12) fa fd ["_law_script"] (spLaw K) := by
  have ex : ExcTab K mg Tb Pr.sub (fun c => [C0, C1, C2][c]?) := by
    refine excTab X G rfl ?_ ?_
    · exact .cons (fun C hC => by cases hC; exact e0) (.cons (fun C hC => by cases hC; exact e1) (.cons (fun C hC => by cases hC; exact e2) (.nil)))
    · intro c c' b e
      replace e : subT c c' = some b := e
      unfold subT at e
      split at e
      · cases e; exact ⟨C0, C0, rfl, rfl, s_0_0⟩
      · cases e; exact ⟨C0, C1, rfl, rfl, s_0_1⟩
      · cases e; exact ⟨C0, C2, rfl, rfl, s_0_2⟩
      · cases e; exact ⟨C1, C0, rfl, rfl, s_1_0⟩
      · cases e; exact ⟨C1, C1, rfl, rfl, s_1_1⟩
      · cases e; exact ⟨C1, C2, rfl, rfl, s_1_2⟩
      · cases e; exact ⟨C2, C0, rfl, rfl, s_2_0⟩
      · cases e; exact ⟨C2, C1, rfl, rfl, s_2_1⟩
      · cases e; exact ⟨C2, C2, rfl, rfl, s_2_2⟩
      · cases e
  have hf : AllP (fun _ I => ∃ st, FnT K mg Tb I st) 0 Tb.fs := 
    .cons ⟨_, d0.fn X G (fun _ _ _ _ _ _ us hl => match us, hl with | [_], _ => rfl), sc_sizes_of, rfl, ck_sizes_of⟩ (
    .cons ⟨_, d1.fn X G (fun _ _ _ _ _ _ us hl => match us, hl with | [_, _], _ => rfl), sc_note_of, rfl, ck_note_of⟩ (
    .cons ⟨_, d2.fn X G (fun _ _ _ _ _ _ us hl => match us, hl with | [_, _], _ => rfl), sc_chosen_by, rfl, ck_chosen_by⟩ (
    .cons ⟨_, d3.fn X G (fun _ _ _ _ _ _ us hl => match us, hl with | [_, _], _ => rfl), sc_note_number, rfl, ck_note_number⟩ (
    .cons ⟨_, d4.fn X G (fun _ _ _ _ _ _ us hl => match us, hl with | [_, _], _ => rfl), sc_numbered_note, rfl, ck_numbered_note⟩ (
    .cons ⟨_, d5.fn X G (fun _ _ _ _ _ _ us hl => match us, hl with | [_, _], _ => rfl), sc_check_note, rfl, ck_check_note⟩ (
    .cons ⟨_, d6.fn X G (fun _ _ _ _ _ _ us hl => match us, hl with | [_], _ => rfl), sc_L_draws, rfl, ck_L_draws⟩ (
    .cons ⟨_, d7.fn X G (fun _ _ _ _ _ _ us hl => match us, hl with | [_, _], _ => rfl), sc_L_draw, rfl, ck_L_draw⟩ (
    .cons ⟨_, d8.fn X G (fun _ _ _ _ _ _ us hl => match us, hl with | [_, _], _ => rfl), sc_L_pick, rfl, ck_L_pick⟩ (
    .cons ⟨_, d9.fn X G (fun _ _ _ _ _ _ us hl => match us, hl with | [_, _], _ => rfl), sc_L_same, rfl, ck_L_same⟩ (
    .cons ⟨_, d10.fn X G (fun _ _ _ _ _ _ us hl => match us, hl with | [_], _ => rfl), sc_L_list, rfl, ck_L_list⟩ (
    .cons ⟨_, d11.fn X G (fun _ _ _ _ _ _ us hl => match us, hl with | [_, _, _], _ => rfl), sc_L_near, rfl, ck_L_near⟩ (
    .cons ⟨_, d12.fn X G (fun _ _ _ _ _ _ us hl => match us, hl with | [_, _], _ => rfl), sc_L_digits, rfl, ck_L_digits⟩ (
    .cons ⟨_, d13.fn X G (fun _ _ _ _ _ _ us hl => match us, hl with | [_, _], _ => rfl), sc_L_number, rfl, ck_L_number⟩ (
    .cons ⟨_, d14.fn X G (fun _ _ _ _ _ _ us hl => match us, hl with | [_, _], _ => rfl), sc_L_chosen_refused, rfl, ck_L_chosen_refused⟩ (
    .cons ⟨_, d15.fn X G (fun _ _ _ _ _ _ us hl => match us, hl with | [_, _], _ => rfl), sc_L_number_refused, rfl, ck_L_number_refused⟩ (
    .cons ⟨_, d16.fn X G (fun _ _ _ _ _ _ us hl => match us, hl with | [_, _], _ => rfl), sc_L_numbered_refused, rfl, ck_L_numbered_refused⟩ (
    .cons ⟨_, d17.fn X G (fun _ _ _ _ _ _ us hl => match us, hl with | [_, _], _ => rfl), sc_L_numbers_asked, rfl, ck_L_numbers_asked⟩ (
    .cons ⟨_, d18.fn X G (fun _ _ _ _ _ _ us hl => match us, hl with | [_], _ => rfl), sc_law, rfl, ck_law⟩ (.nil)))))))))))))))))))
  have bi : ∀ x ∈ Tb.bi, PySem.W.nsIn K mainGlobals x = some none := by
    intro x hx
    simp only [Tb, List.mem_cons, List.not_mem_nil, or_false] at hx
    rcases hx with rfl | rfl | rfl | rfl | rfl | rfl | rfl | rfl | rfl | rfl | rfl | rfl | rfl
    · exact z0
    · exact z1
    · exact z2
    · exact z3
    · exact z4
    · exact z5
    · exact z6
    · exact z7
    · exact z8
    · exact z9
    · exact z10
    · exact z11
    · exact z12
  have cs : ∀ x d, Tb.cs.lookup x = some d → ∃ v u, mg x = some u ∧ RelV v u ∧ d.v = some v := by
    intro x d e
    cases e
  refine law_fn (Tb := Tb) (Pr := Pr) (f := F.law) (n := 12) (I := I_law) X G hfa hf rfl ex bi cs rfl rfl rfl law_true ?_
  intro fd ⟨oc, od, osl, lk⟩ s v
  obtain ⟨f, oc2, od2, an, osl2, kV, doc, pm, cdv, ct, a, lk2, c, k⟩ := d18.ex
  have e := hfa.symm.trans (PySem.W.mg_of X G a)
  cases e
  rw [lk] at lk2
  cases lk2
  exact .of_eq rfl
end Den
open PySem PySem.W PyProof.Rows
set_option maxHeartbeats 0 in
theorem PySem.Challenge.cw_formroads_k16_notes_as_numbers_holds : PySem.Challenge.rw_formroads_k16_notes_as_numbers.Holds := by
  w_on; o_law; k_head; (case hw => w_witness2)
  k_fill
  refine L2.walk_ofB (l := PySem.Challenge.rw_formroads_k16_notes_as_numbers) (n := 63) (k := 2 * 12) (x := "_law_script") (CX := fun w => L2.CX PySem.Challenge.rw_formroads_k16_notes_as_numbers.prog w) (sp := fun w => Den.spLaw _) rfl (by decide) rfl ⟨rfl, by decide, by decide⟩ (fun w h Y => PySem.W.kIn_of Y) ?F (fun _ _ a ns hl hb _ hS => ⟨a, ns, rfl, hS, hl, hb, fun _ => rfl⟩) (fun w H s e s' h => Den.cx_false w H s e s' h)
  case F =>
    intro w mg fa h KX G hmg
    refine' Den.law_all KX G hmg ?e0 ?e1 ?e2 ?s_0_0 ?s_0_1 ?s_0_2 ?s_1_0 ?s_1_1 ?s_1_2 ?s_2_0 ?s_2_1 ?s_2_2 ?z0 ?z1 ?z2 ?z3 ?z4 ?z5 ?z6 ?z7 ?z8 ?z9 ?z10 ?z11 ?z12 ?d0 ?d1 ?d2 ?d3 ?d4 ?d5 ?d6 ?d7 ?d8 ?d9 ?d10 ?d11 ?d12 ?d13 ?d14 ?d15 ?d16 ?d17 ?d18
    (case e0 => refine' ⟨?a, ?x, ?k, ?s, ?t, ?i, ?e, ?v, ?f⟩; (case a => k_is); (case x => k_exc); (case k => k_is); (case s => k_is); (case t => k_is); (case i => k_is); (case e => exact ⟨by k_is, by k_is, by k_is, by k_is, by k_is, by k_is, by k_is, by k_is⟩); (case v => k_is); (case f => k_is))
    (case e1 => refine' ⟨?a, ?x, ?k, ?s, ?t, ?i, ?e, ?v, ?f⟩; (case a => k_is); (case x => k_exc); (case k => k_is); (case s => k_is); (case t => k_is); (case i => k_is); (case e => exact ⟨by k_is, by k_is, by k_is, by k_is, by k_is, by k_is, by k_is, by k_is⟩); (case v => k_is); (case f => k_is))
    (case e2 => refine' ⟨?a, ?x, ?k, ?s, ?t, ?i, ?e, ?v, ?f⟩; (case a => k_is); (case x => k_exc); (case k => k_is); (case s => k_is); (case t => k_is); (case i => k_is); (case e => exact ⟨by k_is, by k_is, by k_is, by k_is, by k_is, by k_is, by k_is, by k_is⟩); (case v => k_is); (case f => k_is))
    (case s_0_0 => k_is)
    (case s_0_1 => k_is)
    (case s_0_2 => k_is)
    (case s_1_0 => k_is)
    (case s_1_1 => k_is)
    (case s_1_2 => k_is)
    (case s_2_0 => k_is)
    (case s_2_1 => k_is)
    (case s_2_2 => k_is)
    (case z0 => k_is)
    (case z1 => k_is)
    (case z2 => k_is)
    (case z3 => k_is)
    (case z4 => k_is)
    (case z5 => k_is)
    (case z6 => k_is)
    (case z7 => k_is)
    (case z8 => k_is)
    (case z9 => k_is)
    (case z10 => k_is)
    (case z11 => k_is)
    (case z12 => k_is)
    (case d0 => exact Den.defAt (by k_is) (by k_is) (by k_is) (by k_is))
    (case d1 => exact Den.defAt (by k_is) (by k_is) (by k_is) (by k_is))
    (case d2 => exact Den.defAt (by k_is) (by k_is) (by k_is) (by k_is))
    (case d3 => exact Den.defAt (by k_is) (by k_is) (by k_is) (by k_is))
    (case d4 => exact Den.defAt (by k_is) (by k_is) (by k_is) (by k_is))
    (case d5 => exact Den.defAt (by k_is) (by k_is) (by k_is) (by k_is))
    (case d6 => exact Den.defAt (by k_is) (by k_is) (by k_is) (by k_is))
    (case d7 => exact Den.defAt (by k_is) (by k_is) (by k_is) (by k_is))
    (case d8 => exact Den.defAt (by k_is) (by k_is) (by k_is) (by k_is))
    (case d9 => exact Den.defAt (by k_is) (by k_is) (by k_is) (by k_is))
    (case d10 => exact Den.defAt (by k_is) (by k_is) (by k_is) (by k_is))
    (case d11 => exact Den.defAt (by k_is) (by k_is) (by k_is) (by k_is))
    (case d12 => exact Den.defAt (by k_is) (by k_is) (by k_is) (by k_is))
    (case d13 => exact Den.defAt (by k_is) (by k_is) (by k_is) (by k_is))
    (case d14 => exact Den.defAt (by k_is) (by k_is) (by k_is) (by k_is))
    (case d15 => exact Den.defAt (by k_is) (by k_is) (by k_is) (by k_is))
    (case d16 => exact Den.defAt (by k_is) (by k_is) (by k_is) (by k_is))
    (case d17 => exact Den.defAt (by k_is) (by k_is) (by k_is) (by k_is))
    (case d18 => exact Den.defAt (by k_is) (by k_is) (by k_is) (by k_is))
