import PyProof.Rows.All
import Wide.All
import OpenK.AllK
import Wide.FinOn
import HandS.ForMost
import HandS.ForExc
import HandS.TryMany
import HandS.ExcIs
import HandS.IsInst
import HandS.Wide
import HandS.EndBits
import HandS.StrMore
import HandS.Evl
import KE.GoesEnum
import KE.GoesEnumKw
import HandS.SortInts
import KE.DataCmp
import HandS.TupAny
import HandS.Style
import HandS.Deep
import HandS.TupLe
import HandS.Rev
import HandS.Zip
import HandS.More
import HandS.Conv
import PySem.Challenge.RW_formroads_k61_less_told_kinds
set_option Elab.async false
set_option linter.all false
set_option maxRecDepth 100000
set_option autoImplicit false
set_option maxHeartbeats 4000000
namespace My
open PySem PySem.Spec PyProof.Rows L2
/-! ### built-in names -/
theorem b0_len : bootBuiltins "len" = some (.builtin "len") := PySem.boot_len
theorem b0_all : bootBuiltins "all" = some (.builtin "all") := by decide +kernel
theorem b0_any : bootBuiltins "any" = some (.builtin "any") := by decide +kernel
theorem b0_sum : bootBuiltins "sum" = some (.builtin "sum") := by decide +kernel
theorem b0_sorted : bootBuiltins "sorted" = some (.builtin "sorted") := by decide +kernel
theorem b0_isinstance : bootBuiltins "isinstance" = some (.builtin "isinstance") := by decide +kernel
theorem b0_int : bootBuiltins "int" = some (.type "int") := by decide +kernel
theorem b0_str : bootBuiltins "str" = some (.type "str") := by decide +kernel
theorem b0_bool : bootBuiltins "bool" = some (.type "bool") := by decide +kernel
theorem b0_list : bootBuiltins "list" = some (.type "list") := by decide +kernel
theorem b0_tuple : bootBuiltins "tuple" = some (.type "tuple") := by decide +kernel
theorem b0_dict : bootBuiltins "dict" = some (.type "dict") := by decide +kernel
theorem b0_ValueError : bootBuiltins "ValueError" = some (.type "ValueError") := by decide +kernel
/-! ### rules that were lacking -/
/-- a * b of ints of together less than 134,217,000 bits -/
def CMulB (i j : Int) : Prop := i.natAbs.log2 + j.natAbs.log2 < 134217000
theorem CMulB.ok {i j : Int} (h : CMulB i j) : IntMulOk i j := by
  have b : ∀ x : Int, Builtin.Int.intBits x ≤ x.natAbs.log2 + 1 := fun x => by
    unfold Builtin.Int.intBits
    split <;> omega
  have h1 := b i
  have h2 := b j
  have h3 : i.natAbs.log2 + j.natAbs.log2 < 134217000 := h
  have e : bitsLine = 134217728 := by decide
  unfold IntMulOk
  intro z
  rw [Bool.and_eq_true] at z
  have z2 := z.2
  unfold Builtin.Int.intTooBig at z2
  have z3 := of_decide_eq_true z2
  rw [e] at z3
  omega
section
variable {X : Cx}
theorem op_mulB : OpR X (binaryOp .Mult) (rI CMulB fun i j => .int (i * j)) := opI fun _ _ _ _ _ _ _ hc q => mul_int q hc.ok
/-- text * int -/
theorem op_mul_str : OpR X (binaryOp .Mult) (fun x y H Q => ∃ (z : Str) (k : Int), x = .str z ∧ y = .int k ∧ 0 ≤ k ∧ k ≤ 1000 ∧ z.length ≤ 1000 ∧ Q (.str (Txt.mul z k)) H) := by
  intro pins s σ H x y v u Q I rx ry h
  obtain ⟨z, k, rfl, rfl, h0, h1, h2, q⟩ := h
  obtain ⟨t, rfl⟩ := rx
  obtain ⟨t', rfl⟩ := ry
  exact PySem.SB.mul (PyProof.Rows.mulOk_of 1000 1000 h2 (by omega) (by omega) (by decide) (by decide)) (fun t' tk => ⟨.str (Txt.mul z k), H, I.tok _, ⟨_, rfl⟩, q⟩)
end
/-! ### defs of the top -/
/-- the def of that name keeps the promise -/
def FOk (P : Program) (w : World) (K : PySem.W.Frag) (mg : Str → Option Value) (base : Heap) (CX : CXT) (x : Str) (ps : List Str) (k : Nat) (sp : Sp) : Prop :=
  ∃ (f : Addr) (fd : FuncData), mg x = some (.ref f) ∧ PySem.W.keepIn K (.ref f) = true ∧ (∃ oc od osl, K.lookup f = some ⟨oc, od, .func fd, osl⟩) ∧ Binds K fd ps [] ∧ FnOk P w K mg base CX k f fd ps sp
/-- the def stands at the top -/
structure Fn (K : PySem.W.Frag) (mg : Str → Option Value) (x : Str) (st : Stmt) (ps : List Str) : Prop where
  ex : ∃ (f : Addr) (fd : FuncData), mg x = some (.ref f) ∧ Fun K x x st f fd ∧ Binds K fd ps []
section
variable {P : Program} {w : World} {K : PySem.W.Frag} {mg : Str → Option Value} {base : Heap}
theorem _root_.L2.Fun.at' {x qual : Str} {st : Stmt} {f : Addr} {fd : FuncData} (F : Fun K x qual st f fd) : ∃ oc od osl, K.lookup f = some ⟨oc, od, .func fd, osl⟩ := by
  obtain ⟨oc, od, kV, doc, pm, an, cdv, ct, osl, e, lk, _⟩ := F.ex
  exact ⟨oc, od, osl, lk⟩
theorem Fn.ok {x : Str} {st : Stmt} {N ps : List Str} {k : Nat} {sp : Sp} (F : Fn K mg x st ps) (S : FnScope N ps (defScope st)) (len : ∀ vs H Q E, sp vs H Q E → vs.length = ps.length)
    (hbody : ∀ (f : Addr) (cdv : Value) (A : Around) (outer : List Env) (s : Shared) (H : Hp) (vs : List V) (Q : VK) (E : XK), Room k (A.deeper (envOfC x (defScope st) s.heap.objs.size f cdv)) → sp vs H Q E →
      ∃ t, PSs (cxOf CX0 P w K mg base N x (defScope st) f cdv A outer s H E).nox (defBody st) t ∧ t { nx := fun _ H' => Q .non H', rt := Q } (start N vs) H) : FOk P w K mg base CX0 x ps (k + 1) sp := by
  obtain ⟨f, fd, g, F1, b⟩ := F.ex
  exact ⟨f, fd, g, F1.kp, F1.at', b, F1.ok S len (hbody f)⟩
theorem Fn.okX {x : Str} {st : Stmt} {N ps : List Str} {k : Nat} {sp : Sp} (F : Fn K mg x st ps) (S : FnScope N ps (defScope st)) (len : ∀ vs H Q E, sp vs H Q E → vs.length = ps.length)
    (hbody : ∀ (f : Addr) (cdv : Value) (A : Around) (outer : List Env) (s : Shared) (H : Hp) (vs : List V) (Q : VK) (E : XK), Room k (A.deeper (envOfC x (defScope st) s.heap.objs.size f cdv)) → sp vs H Q E →
      ∃ t, PSs (cxOf (L2.CX P w) P w K mg base N x (defScope st) f cdv A outer s H E) (defBody st) t ∧ t { nx := fun _ H' => Q .non H', rt := Q } (start N vs) H) : FOk P w K mg base (L2.CX P w) x ps (k + 1) sp := by
  obtain ⟨f, fd, g, F1, b⟩ := F.ex
  exact ⟨f, fd, g, F1.kp, F1.at', b, F1.okX S len (hbody f)⟩
theorem fn_at {h : Heap} (X : K.In h) (G : h.Ns mainGlobals mg) {x : Str} {st : Stmt} {ps : List Str} {f : Addr} {oc : Value} {od an : Option Addr} {osl : Array (Option Value)} {kV doc pm cdv ct : Value}
    (a : PySem.W.nsIn K mainGlobals x = some (some (.ref f)))
    (l : K.lookup f = some ⟨oc, od, .func (PySem.W.fnOf x x (defArgs st) (defBody st) (defScope st) .none kV doc pm an cdv ct), osl⟩)
    (c : PySem.W.codeIn K cdv x = true) (k : PySem.W.keepIn K (.ref f) = true)
    (b : ∀ (kV doc pm : Value) (an : Option Addr) (cdv ct : Value) (us : List Value), us.length = ps.length → bindArgs (PySem.W.fnOf x x (defArgs st) (defBody st) (defScope st) .none kV doc pm an cdv ct) ⟨us, []⟩ = pure (ps.zip us)) : Fn K mg x st ps := by
  have F := fun_mk l c k
  exact ⟨⟨f, _, PySem.W.mg_of X G a, F, F.binds b⟩⟩
end
section
variable {X : Cx} {k j : Nat} {ps : List Str} {sp : Sp} {x : Str} {p pos : Pos} {e : Expr} {es : List Expr} {t : TA}
/-- f(..), f a def that raises nothing -/
theorem pcall (F : FOk X.prog X.w X.K X.mg X.base CX0 x ps j sp) (hr : Room k X.A) (ha : PA X (e :: es) t) (hj : j ≤ k := by decide) (hg : Gl X x := by rfl) (hdb : (x == ("__debug__" : Str)) = false := by decide)
    (he : starEach (e :: es) X.env = (false, eval e X.env) :: starEach es X.env := by rfl) (hpl : (backTo pos (starEach es X.env)).any (·.1) = false := by rfl) : PE X (.Call (.Name x p) (e :: es) [] pos) (tCall sp [] E0 t) := by
  obtain ⟨f, fd, g, kp, _, b, F⟩ := F
  exact pe_call F (hr.mono hj) hg g kp b .nil pass0 ha hdb he hpl
/-- f(..), f a def that may raise, where W is wished of what is raised -/
theorem pcallX {W : WX} (F : FOk X.prog X.w X.K X.mg X.base (L2.CX X.prog X.w) x ps j sp) (hr : Room k X.A) (tk : Takes X W) (ha : PA X (e :: es) t) (hj : j ≤ k := by decide) (hg : Gl X x := by rfl) (hdb : (x == ("__debug__" : Str)) = false := by decide)
    (he : starEach (e :: es) X.env = (false, eval e X.env) :: starEach es X.env := by rfl) (hpl : (backTo pos (starEach es X.env)).any (·.1) = false := by rfl) : PE X (.Call (.Name x p) (e :: es) [] pos) (tCallS sp (WE W) t) := by
  obtain ⟨f, fd, g, kp, _, b, F⟩ := F
  exact pe_callS F (hr.mono hj) hg g kp b (fun σ => passAt tk σ) ha hdb he hpl
end
/-! ### heaps -/
/-- all but a is as it was -/
def SameBut (a : Addr) (H H' : Hp) : Prop := ∀ b o, b ≠ a → H b = some o → H' b = some o
theorem SameBut.refl (a : Addr) (H : Hp) : SameBut a H H := fun _ _ _ h => h
theorem SameBut.trans {a : Addr} {H H1 H2 : Hp} (x : SameBut a H H1) (y : SameBut a H1 H2) : SameBut a H H2 := fun b o n h => y b o n (x b o n h)
theorem SameBut.of {a : Addr} {H H' : Hp} (x : Same H H') : SameBut a H H' := fun b o _ h => x b o h
theorem SameBut.upd {a : Addr} {H : Hp} {o : HO} : SameBut a H (upd H a o) := fun b u n h => by rw [upd_ne n]; exact h
theorem Same.new {H : Hp} {p : Addr} {o : HO} (h : H p = none) : Same H (upd H p o) := fun b x e => by
  rw [upd_ne (ne_of_none e h)]
  exact e
theorem sql_ne {K : PySem.W.Frag} {a : Addr} {H H' : Hp} {p : Addr} {xs : List V} (n : p ≠ a) (x : SameBut a H H') (h : SqL K H p xs) : SqL K H' p xs := by
  rcases h with (h | ⟨o, h⟩) | h
  · exact .inl (.inl (x _ _ n h))
  · exact .inl (.inr ⟨o, x _ _ n h⟩)
  · exact .inr h
theorem sqt_ne {K : PySem.W.Frag} {a : Addr} {H H' : Hp} {p : Addr} {xs : List V} (n : p ≠ a) (x : SameBut a H H') (h : SqT K H p xs) : SqT K H' p xs := by
  rcases h with (h | ⟨o, h⟩) | h
  · exact .inl (.inl (x _ _ n h))
  · exact .inl (.inr ⟨o, x _ _ n h⟩)
  · exact .inr h
theorem sqt_same {K : PySem.W.Frag} {H H' : Hp} {a : Addr} {xs : List V} (e : Same H H') (h : SqT K H a xs) : SqT K H' a xs := by
  rcases h with (h | ⟨o, h⟩) | h
  · exact .inl (.inl (e _ _ h))
  · exact .inl (.inr ⟨o, e _ _ h⟩)
  · exact .inr h
theorem SqL.of' {K : PySem.W.Frag} {H : Hp} {a : Addr} {xs : List V} (h : H a = some (.lst xs)) : SqL K H a xs := .inl (.inl h)
theorem le1000 {n : Nat} (h : n ≤ 1000) : n ≤ sizeLine := Nat.le_trans h (by decide)
theorem le100k {n : Nat} (h : n ≤ 100000) : n ≤ sizeLine := Nat.le_trans h (by decide)
theorem lt100k {n : Nat} (h : n < 100000) : n < sizeLine := Nat.lt_of_lt_of_le h (by decide)
end My
namespace My
open PySem PySem.Spec PyProof.Rows L2
/-! ### loops by what has been gone through -/
theorem take_snoc {α : Type} {xs : List α} {i : Nat} {x : α} (h : xs[i]? = some x) : xs.take (i + 1) = xs.take i ++ [x] := by
  rw [List.take_add_one, h]
  rfl
theorem split_at' {α : Type} {xs : List α} {i : Nat} {x : α} (h : xs[i]? = some x) : xs = xs.take i ++ x :: xs.drop (i + 1) := by
  have hi : i < xs.length := by
    rcases Nat.lt_or_ge i xs.length with q | q
    · exact q
    · rw [List.getElem?_eq_none q] at h
      cases h
  have e : xs[i] = x := by
    rw [List.getElem?_eq_getElem hi] at h
    exact Option.some.inj h
  rw [← e, ← List.drop_eq_getElem_cons hi, List.take_append_drop]
section
variable {K : PySem.W.Frag} {a : Addr} {xs : List V} {g : TG} {tb : TS} {D : Ends} {σ : L2.St} {H : Hp}
/-- for x in a list: Pv of what has been gone through -/
theorem forL (Pv : List V → L2.St → Hp → Prop) (h0 : Pv [] σ H) (hl : ∀ pre σ H, Pv pre σ H → SqL K H a xs)
    (hs : ∀ pre x post σ H, xs = pre ++ x :: post → Pv pre σ H → g x σ H fun σ2 H2 => tb { D with nx := Pv (pre ++ [x]), ct := Pv (pre ++ [x]), bk := D.nx } σ2 H2) (hd : ∀ σ H, Pv xs σ H → D.nx σ H) :
    ∃ W : Nat → Nat → L2.St → Hp → Prop, (∃ m, W 0 m σ H) ∧ ∀ i m σ H, W i m σ H →
      ((Itl K a).stop i H ∧ D.nx σ H) ∨ ((Itl K a).go i H ∧ ∃ N : L2.St → Hp → Prop, (∀ σ' H', N σ' H' → ∃ m', m' < m ∧ W (i + 1) m' σ' H') ∧ ∀ x H', (Itl K a).yld i H x H' → g x σ H' fun σ2 H2 => tb { D with nx := N, ct := N, bk := D.nx } σ2 H2) :=
  for_list (K := K) (a := a) (xs := xs) (fun i => Pv (xs.take i)) h0 (fun i σ H _ p => hl _ σ H p) (fun i x σ H e p => by
    have := hs (xs.take i) x (xs.drop (i + 1)) σ H (split_at' e) p
    rw [← take_snoc e] at this
    exact this) (fun σ H p => hd σ H (by rw [List.take_length] at p; exact p))
theorem forT (Pv : List V → L2.St → Hp → Prop) (h0 : Pv [] σ H) (hl : ∀ pre σ H, Pv pre σ H → SqT K H a xs)
    (hs : ∀ pre x post σ H, xs = pre ++ x :: post → Pv pre σ H → g x σ H fun σ2 H2 => tb { D with nx := Pv (pre ++ [x]), ct := Pv (pre ++ [x]), bk := D.nx } σ2 H2) (hd : ∀ σ H, Pv xs σ H → D.nx σ H) :
    ∃ W : Nat → Nat → L2.St → Hp → Prop, (∃ m, W 0 m σ H) ∧ ∀ i m σ H, W i m σ H →
      ((Itt K a).stop i H ∧ D.nx σ H) ∨ ((Itt K a).go i H ∧ ∃ N : L2.St → Hp → Prop, (∀ σ' H', N σ' H' → ∃ m', m' < m ∧ W (i + 1) m' σ' H') ∧ ∀ x H', (Itt K a).yld i H x H' → g x σ H' fun σ2 H2 => tb { D with nx := N, ct := N, bk := D.nx } σ2 H2) :=
  for_tup (K := K) (a := a) (xs := xs) (fun i => Pv (xs.take i)) h0 (fun i σ H _ p => hl _ σ H p) (fun i x σ H e p => by
    have := hs (xs.take i) x (xs.drop (i + 1)) σ H (split_at' e) p
    rw [← take_snoc e] at this
    exact this) (fun σ H p => hd σ H (by rw [List.take_length] at p; exact p))
/-- for c in a text -/
theorem forS {z : Str} (Pv : List Nat → L2.St → Hp → Prop) (h0 : Pv [] σ H)
    (hs : ∀ pre c post σ H, z.cps.toList = pre ++ c :: post → Pv pre σ H → g (.str ⟨#[c]⟩) σ H fun σ2 H2 => tb { D with nx := Pv (pre ++ [c]), ct := Pv (pre ++ [c]), bk := D.nx } σ2 H2) (hd : ∀ σ H, Pv z.cps.toList σ H → D.nx σ H) :
    ∃ W : Nat → Nat → L2.St → Hp → Prop, (∃ m, W 0 m σ H) ∧ ∀ i m σ H, W i m σ H →
      ((Its z).stop i H ∧ D.nx σ H) ∨ ((Its z).go i H ∧ ∃ N : L2.St → Hp → Prop, (∀ σ' H', N σ' H' → ∃ m', m' < m ∧ W (i + 1) m' σ' H') ∧ ∀ x H', (Its z).yld i H x H' → g x σ H' fun σ2 H2 => tb { D with nx := N, ct := N, bk := D.nx } σ2 H2) := by
  refine ⟨fun i m σ H => m = z.cps.size - i ∧ i ≤ z.cps.size ∧ Pv (z.cps.toList.take i) σ H, ⟨z.cps.size, by simp, Nat.zero_le _, h0⟩, ?_⟩
  rintro i m σ H ⟨rfl, hi, p⟩
  by_cases hlt : i < z.cps.size
  · refine .inr ⟨hlt, Pv (z.cps.toList.take (i + 1)), fun σ' H' p' => ⟨z.cps.size - (i + 1), by omega, rfl, hlt, p'⟩, fun x H' y => ?_⟩
    obtain ⟨rfl, c, hc, rfl⟩ := y
    have hc' : z.cps.toList[i]? = some c := by rw [← hc]; simp
    have := hs _ c _ σ H' (split_at' hc') p
    rw [← take_snoc hc'] at this
    exact this
  · have e : i = z.cps.size := by omega
    subst e
    refine .inl ⟨Nat.le_refl _, hd σ H ?_⟩
    have e2 : z.cps.toList.take z.cps.size = z.cps.toList := List.take_of_length_le (by simp)
    rw [e2] at p
    exact p
end
section
variable {K : PySem.W.Frag} {a : Addr} {xs : List V} {g : TG} {tt : TT} {te : TE} {vs : List Nat} {σ : L2.St} {H1 : Hp} {D : Addr} {Qd : Hp → Prop}
/-- [.. for x in a list ..]: Pv of what has been gone through -/
theorem lcL (Pv : List V → Hp → Prop) (h0 : Pv [] (upd H1 D (.lst []))) (hl : ∀ pre H, Pv pre H → SqL K H a xs)
    (hs : ∀ pre x post H, xs = pre ++ x :: post → Pv pre H → g x (wipe σ vs) H fun σ2 H2 => wipe σ2 vs = wipe σ vs ∧ tt σ2 H2 fun b H3 =>
      if b = true then te σ2 H3 fun y H4 => ∃ acc, H4 D = some (.lst acc) ∧ acc.length < sizeLine ∧ Pv (pre ++ [x]) (upd H4 D (.lst (acc ++ [y]))) else Pv (pre ++ [x]) H3) (hd : ∀ H, Pv xs H → Qd H) :
    ∃ W : Nat → Nat → Hp → Prop, (∃ m, W 0 m (upd H1 D (.lst []))) ∧ ∀ i m H, W i m H →
      ((Itl K a).stop i H ∧ Qd H) ∨ ((Itl K a).go i H ∧ ∃ Nx : Hp → Prop, (∀ H', Nx H' → ∃ m', m' < m ∧ W (i + 1) m' H') ∧ ∀ x H', (Itl K a).yld i H x H' → g x (wipe σ vs) H' fun σ2 H2 => wipe σ2 vs = wipe σ vs ∧ tt σ2 H2 fun b H3 =>
        if b = true then te σ2 H3 fun y H4 => ∃ acc, H4 D = some (.lst acc) ∧ acc.length < sizeLine ∧ Nx (upd H4 D (.lst (acc ++ [y]))) else Nx H3) :=
  lc_list (K := K) (a := a) (xs := xs) (fun i => Pv (xs.take i)) h0 (fun i H _ p => hl _ H p) (fun i x H e p => by
    have := hs (xs.take i) x (xs.drop (i + 1)) H (split_at' e) p
    rw [← take_snoc e] at this
    exact this) (fun H p => hd H (by rw [List.take_length] at p; exact p))
theorem lcT (Pv : List V → Hp → Prop) (h0 : Pv [] (upd H1 D (.lst []))) (hl : ∀ pre H, Pv pre H → SqT K H a xs)
    (hs : ∀ pre x post H, xs = pre ++ x :: post → Pv pre H → g x (wipe σ vs) H fun σ2 H2 => wipe σ2 vs = wipe σ vs ∧ tt σ2 H2 fun b H3 =>
      if b = true then te σ2 H3 fun y H4 => ∃ acc, H4 D = some (.lst acc) ∧ acc.length < sizeLine ∧ Pv (pre ++ [x]) (upd H4 D (.lst (acc ++ [y]))) else Pv (pre ++ [x]) H3) (hd : ∀ H, Pv xs H → Qd H) :
    ∃ W : Nat → Nat → Hp → Prop, (∃ m, W 0 m (upd H1 D (.lst []))) ∧ ∀ i m H, W i m H →
      ((Itt K a).stop i H ∧ Qd H) ∨ ((Itt K a).go i H ∧ ∃ Nx : Hp → Prop, (∀ H', Nx H' → ∃ m', m' < m ∧ W (i + 1) m' H') ∧ ∀ x H', (Itt K a).yld i H x H' → g x (wipe σ vs) H' fun σ2 H2 => wipe σ2 vs = wipe σ vs ∧ tt σ2 H2 fun b H3 =>
        if b = true then te σ2 H3 fun y H4 => ∃ acc, H4 D = some (.lst acc) ∧ acc.length < sizeLine ∧ Nx (upd H4 D (.lst (acc ++ [y]))) else Nx H3) :=
  lc_tup (K := K) (a := a) (xs := xs) (fun i => Pv (xs.take i)) h0 (fun i H _ p => hl _ H p) (fun i x H e p => by
    have := hs (xs.take i) x (xs.drop (i + 1)) H (split_at' e) p
    rw [← take_snoc e] at this
    exact this) (fun H p => hd H (by rw [List.take_length] at p; exact p))
theorem lcS {z : Str} (Pv : List Nat → Hp → Prop) (h0 : Pv [] (upd H1 D (.lst [])))
    (hs : ∀ pre c post H, z.cps.toList = pre ++ c :: post → Pv pre H → g (.str ⟨#[c]⟩) (wipe σ vs) H fun σ2 H2 => wipe σ2 vs = wipe σ vs ∧ tt σ2 H2 fun b H3 =>
      if b = true then te σ2 H3 fun y H4 => ∃ acc, H4 D = some (.lst acc) ∧ acc.length < sizeLine ∧ Pv (pre ++ [c]) (upd H4 D (.lst (acc ++ [y]))) else Pv (pre ++ [c]) H3) (hd : ∀ H, Pv z.cps.toList H → Qd H) :
    ∃ W : Nat → Nat → Hp → Prop, (∃ m, W 0 m (upd H1 D (.lst []))) ∧ ∀ i m H, W i m H →
      ((Its z).stop i H ∧ Qd H) ∨ ((Its z).go i H ∧ ∃ Nx : Hp → Prop, (∀ H', Nx H' → ∃ m', m' < m ∧ W (i + 1) m' H') ∧ ∀ x H', (Its z).yld i H x H' → g x (wipe σ vs) H' fun σ2 H2 => wipe σ2 vs = wipe σ vs ∧ tt σ2 H2 fun b H3 =>
        if b = true then te σ2 H3 fun y H4 => ∃ acc, H4 D = some (.lst acc) ∧ acc.length < sizeLine ∧ Nx (upd H4 D (.lst (acc ++ [y]))) else Nx H3) := by
  refine ⟨fun i m H => m = z.cps.size - i ∧ i ≤ z.cps.size ∧ Pv (z.cps.toList.take i) H, ⟨z.cps.size, by simp, Nat.zero_le _, h0⟩, ?_⟩
  rintro i m H ⟨rfl, hi, p⟩
  by_cases hlt : i < z.cps.size
  · refine .inr ⟨hlt, Pv (z.cps.toList.take (i + 1)), fun H' p' => ⟨z.cps.size - (i + 1), by omega, rfl, hlt, p'⟩, fun x H' y => ?_⟩
    obtain ⟨rfl, c, hc, rfl⟩ := y
    have hc' : z.cps.toList[i]? = some c := by rw [← hc]; simp
    have := hs _ c _ H' (split_at' hc') p
    rw [← take_snoc hc'] at this
    exact this
  · have e : i = z.cps.size := by omega
    subst e
    refine .inl ⟨Nat.le_refl _, hd H ?_⟩
    have e2 : z.cps.toList.take z.cps.size = z.cps.toList := List.take_of_length_le (by simp)
    rw [e2] at p
    exact p
end
end My
namespace My
section
variable {c A B : Prop} [Decidable c]
theorem dT (h : c) (q : A) : if decide c = true then A else B := by rw [if_pos (decide_eq_true h)]; exact q
theorem dF (h : ¬ c) (q : B) : if decide c = true then A else B := by rw [decide_eq_false h, if_neg Bool.false_ne_true]; exact q
theorem nT (h : ¬ c) (q : A) : if (!decide c) = true then A else B := by rw [decide_eq_false h]; exact q
theorem nF (h : c) (q : B) : if (!decide c) = true then A else B := by rw [decide_eq_true h]; exact q
theorem d2 (h1 : c → A) (h2 : ¬ c → B) : if decide c = true then A else B := by
  by_cases h : c
  · exact dT h (h1 h)
  · exact dF h (h2 h)
theorem n2 (h1 : ¬ c → A) (h2 : c → B) : if (!decide c) = true then A else B := by
  by_cases h : c
  · exact nF h (h2 h)
  · exact nT h (h1 h)
theorem b2 {b : Bool} {A B : Prop} (h1 : b = true → A) (h2 : b = false → B) : if b = true then A else B := by
  cases b with
  | true => exact h1 rfl
  | false => exact h2 rfl
theorem bT {b : Bool} {A B : Prop} (h : b = true) (q : A) : if b = true then A else B := by rw [h]; exact q
theorem bF {b : Bool} {A B : Prop} (h : b = false) (q : B) : if b = true then A else B := by rw [h]; exact q
end
end My
namespace My
open PySem PySem.Spec PyProof.Rows L2 Evl
section
variable {K : PySem.W.Frag} {H : Hp} {x y : V}
theorem rv_isN : RV (fun x y H Q => y = .non ∧ Q (.bl (decide (x = .non))) H) x .non H (.bl (decide (x = .non))) := fun H1 _ _ q => ⟨rfl, q H1 (Evl.Ex.refl H1)⟩
theorem rv_notN : RV (fun x y H Q => y = .non ∧ Q (.bl (!decide (x = .non))) H) x .non H (.bl (!decide (x = .non))) := fun H1 _ _ q => ⟨rfl, q H1 (Evl.Ex.refl H1)⟩
theorem rv_inStr {i j : Str} : RV (fun x y H Q => ∃ i j, x = .str i ∧ y = .str j ∧ Q (.bl (!(Builtin.Str.occurrences j i 0 j.length 1).isEmpty)) H) (.str i) (.str j) H (.bl (!(Builtin.Str.occurrences j i 0 j.length 1).isEmpty)) := fun H1 _ _ q => ⟨i, j, rfl, rfl, q H1 (Evl.Ex.refl H1)⟩
theorem rv_addS {i j : Str} (h : i.length + j.length ≤ sizeLine) : RV (fun x y H Q => ∃ i j, x = .str i ∧ y = .str j ∧ i.length + j.length ≤ sizeLine ∧ Q (.str (i ++ j)) H) (.str i) (.str j) H (.str (i ++ j)) := fun H1 _ _ q => ⟨i, j, rfl, rfl, h, q H1 (Evl.Ex.refl H1)⟩
end
end My
set_option Elab.async false
set_option linter.all false
set_option maxRecDepth 100000
set_option autoImplicit false
set_option maxHeartbeats 4000000
namespace ET
open PySem PySem.Spec PyProof.Rows L2
theorem meets_enumerate_new1 {v : Value} {o : Obj} {H : Heap → Prop} (B : Begins v o H) :
    Meets (Builtin.«enumerate.__new__» ⟨[.type "enumerate", v], []⟩) (fun _ R s => H s.heap ∧
      R (.ok (.ret (.ref (s.heap.push o).objs.size))) { s with heap := (s.heap.push o).push { cls := .type "enumerate", data := .fields #[.none, .bool false, .ref s.heap.objs.size, rawInt 0, .none, .none] } }) :=
  .of_wp fun prog w A R s h => by
    obtain ⟨hp, g, d, tk, os⟩ := s; obtain ⟨h1, h⟩ := h
    have hsub := sub_enumerate
    have q1 : ∀ {A' : Around} {E : Value → Shared → Prop} {Q : Value → Shared → Prop}, Q (.ref hp.objs.size) ⟨hp.push o, g, d, tk, os⟩ → wpAny (model prog w) A' (pyIter v) Q E ⟨hp, g, d, tk, os⟩ :=
      fun q => B.iter prog w _ _ ⟨hp, g, d, tk, os⟩ _ h1 q
    wp_walk using q1
    refine wpAny_stack_any fun st => wpAny_pure ?_
    split
    · rename_i c _ _ _ _ _
      cases (c == Value.type "enumerate")
      · wp_walk using q1
        exact ⟨_, rfl, h⟩
      · wp_walk using q1
        exact ⟨_, rfl, h⟩
    · wp_walk using q1
      exact ⟨_, rfl, h⟩
section
variable {prog : Program} {w : World} {A : Around} {E : Value → Shared → Prop} {s : Shared}
theorem enum_begins1 {v : Value} {o : Obj} {H : Heap → Prop} {Q : Value → Shared → Prop} (B : Begins v o H) (h1 : H s.heap)
    (h : ∀ h', IsEnum h' (s.heap.objs.size + 1) s.heap.objs.size 0 .none → h'.get? s.heap.objs.size = some o → h'.objs.size = s.heap.objs.size + 2 →
      (∀ b o, s.heap.get? b = some o → h'.get? b = some o) → Q (.ref (s.heap.objs.size + 1)) { s with heap := h' }) :
    wpAny (model prog w) A (call (.type "enumerate") [v]) Q E s := by
  refine callType_new F.called_enumerate (by decide) (F.typeCall_enumerate_1 _) (F.newCall_enumerate_1 _) (fun obj => F.args_object_init_2 obj _) F.entry_enumerate_new
    (meets_enumerate_new1 B) ⟨h1, ?_⟩
  have hz : (s.heap.push o).objs.size = s.heap.objs.size + 1 := Heap.size_push ..
  show _ ∧ _
  rw [hz]
  have he : IsEnum ((s.heap.push o).push { cls := .type "enumerate", data := .fields #[.none, .bool false, .ref s.heap.objs.size, rawInt 0, .none, .none] }) (s.heap.objs.size + 1) s.heap.objs.size 0 .none := by
    have := Heap.get?_push_size (s.heap.push o) (o := { cls := .type "enumerate", data := .fields #[.none, .bool false, .ref s.heap.objs.size, rawInt 0, .none, .none] }) rfl
    rw [hz] at this; exact this
  refine ⟨⟨_, he, rfl⟩, h _ he (Heap.get?_push_of_some _ (Heap.get?_push_size _ B.free)) (by rw [Heap.size_push, hz]) fun b o x => Heap.get?_push_of_some _ (Heap.get?_push_of_some _ x)⟩
theorem next_enum_endT {e it t : Addr} {i : Nat} {items : Array Value} {c : Int} {old : Value} {Q : Option Value → Shared → Prop} (hh : A.handled = none)
    (he : IsEnum s.heap e it c old) (hit : s.heap.IsTupleIter it t i) (ht : s.heap.IsTuple t items) (hx : items[i]? = none)
    (hQ : ∀ h', Heap.ExtBut it s.heap h' → Q none { s with heap := h' }) : wpAny (model prog w) A (pyNext (.ref e)) Q E s := by
  have hT : s.TypeIs (.ref e) "enumerate" := ⟨_, he, rfl⟩
  unfold pyNext
  refine wpAny_bind (wpAny_attempt (wpAny_callSpecial?_slot (name := Str.ofString "__next__") hT F.slot_enumerate_next
    (wpAny_call_entry F.slot_enumerate_next hT F.entry_enumerate_next ?_ (F.args_enumerate_next_1 _))))
  show wpAny _ _ (field (.ref e) 2 >>= _) _ _ _
  refine wpAny_bind (wpAny_field he rfl (x := .ref it) rfl ?_)
  refine wpAny_bind (wpAny_nextOf_tuple_end (A := A.in1) hh hit ht hx fun h' x he' hx' => ?_)
  obtain ⟨o, ho, hc⟩ := hx'
  refine wpAny_bind (wpAny_isInstance (T := "StopIteration") (b := true) ⟨o, ho, hc⟩ isSubtype_stop ?_)
  exact wpAny_pure (hQ _ he')
end
/-- the tuple at a at each turn, each item in a new pair -/
def IteT (K : PySem.W.Frag) (a : Addr) : It :=
  ⟨fun i H => ∃ (xs : List V) (x : V), SqT K H a xs ∧ xs[i]? = some x, fun i H v H' => ∃ T x, v = .ref T ∧ H T = none ∧ H' = upd H T (.tup [.int (i : Nat), x]) ∧ ∀ xs, SqT K H a xs → xs[i]? = some x, fun i H => ∃ xs : List V, SqT K H a xs ∧ xs.length ≤ i⟩
theorem turn_enumT {P : Program} {w : World} {K : PySem.W.Frag} {elts : List Expr} {kk : Nat} {tpos : Pos} (a e it : Addr) :
    Turn P w K (.Tuple elts kk tpos) (IteT K a) [e, it] e (fun i h => (∃ old, IsEnum h e it ((i : Nat) : Int) old) ∧ h.IsTupleIter it a i ∧ e ≠ it) where
  mem := by simp
  obj := fun i h st b hb => by
    obtain ⟨⟨old, he⟩, ⟨o, ho, hc, hd⟩, _⟩ := st
    have e' : b = e ∨ b = it := by simpa using hb
    rcases e' with z | z
    · rw [z]; exact ⟨_, he, fun v q => nomatch q⟩
    · rw [z]; exact ⟨o, ho, fun v q => by rw [hd] at q; cases q⟩
  keep := fun i h h' st k => let ⟨⟨old, he⟩, hi, hne⟩ := st; ⟨⟨old, k e (by simp) _ he⟩, hi.at fun o q => k it (by simp) o q, hne⟩
  item := by
    intro X hP hw hK hc i pins s σ H E I hf st hg
    subst hP hw hK
    obtain ⟨⟨old, he⟩, hit, hne⟩ := st
    obtain ⟨xs, x, hq, hx⟩ := hg
    obtain ⟨its, rv, p, hz⟩ := I.tuple hq
    obtain ⟨u, hu, ru⟩ := rv.get hx
    have hel : e < s.heap.objs.size := Heap.lt_size he
    have hil : it < s.heap.objs.size := by obtain ⟨_, q, _⟩ := hit; exact Heap.lt_size q
    have hae : a ≠ e := fun z => by
      subst z
      obtain ⟨o, ho, hc, _⟩ := p
      have he' : s.heap.get? a = _ := he
      rw [he'] at ho
      cases ho
      injection hc with q
      exact absurd q (by decide)
    have hai : a ≠ it := fun z => by
      subst z
      obtain ⟨o, ho, hc, _⟩ := p
      obtain ⟨o2, ho2, hc2, _⟩ := hit
      rw [ho2] at ho
      cases ho
      rw [hc2] at hc
      injection hc with q
      exact absurd q (by decide)
    have hls : i < its.toArray.size := by
      have := (List.getElem?_eq_some_iff.mp hu).1
      simpa using this
    refine wpAny_pyNext_enum_itemD (Draws.tuple (A := X.A.in1) (I.ok.hd hc) it a hai its.toArray) he ⟨hit, p⟩ hls hne (by simp; exact ⟨hne, fun z => hae z.symm⟩) fun x' h' tk hP ho hs' hT hsz hk => ?_
    obtain rfl : u = x' := by
      have e1 : its[i]? = some x' := by simpa using hP
      rw [hu] at e1; cases e1; rfl
    refine ⟨_, rfl, wpAny_letOwnedTupleGo_enum (s := { s with heap := h', toks := tk + 1 }) ho fun h'' he' sb => ?_⟩
    have hT2 : h''.get? s.heap.objs.size = some { cls := .type "tuple", data := .seq #[.int i tk, u] } := (sb.2 _ (Nat.ne_of_gt hel)).trans hT
    have new : ObjOk X.prog X.w (upd H s.heap.objs.size (.tup [.int (i : Nat), x])) h'' s.heap.objs.size (.tup [.int (i : Nat), x]) :=
      ⟨by show 2 ≤ sizeLine; decide, [.int i tk, u], .cons ⟨_, rfl⟩ (.cons ru .nil), ⟨_, hT2, rfl, _, rfl⟩⟩
    have I1 : Inv X pins σ (upd H s.heap.objs.size (.tup [.int (i : Nat), x])) { s with heap := h'', toks := tk + 1 } :=
      I.turnedNew (ch := [e, it]) (fun b ob hb q => (sb.2 b (fun z => hb (by simp [z]))).trans (hk b ob (fun z => hb (by simp [z])) (fun z => hb (by simp [z])) q)) hf (Nat.le_refl _) new
    refine ⟨.ref s.heap.objs.size, _, I1, rfl, ⟨_, x, rfl, I.hok.fresh (Nat.le_refl _), rfl, fun ys hy => by rw [I.tuple_inj hy hq]; exact hx⟩, ⟨⟨u, ?_⟩, hs'.1.at fun o q => (sb.2 it (Ne.symm hne)).trans q, hne⟩, fun b hb => ?_⟩
    · have e1 : ((i + 1 : Nat) : Int) = (i : Int) + 1 := by omega
      rw [e1]; exact he'
    · have hb' : b < s.heap.objs.size := by
        have e' : b = e ∨ b = it := by simpa using hb
        rcases e' with z | z
        · rw [z]; exact hel
        · rw [z]; exact hil
      rw [upd_ne (Nat.ne_of_lt hb')]
      exact (hf b hb).1
  done := by
    intro X hP hw hK hc i pins s σ H E I hf st hg
    subst hP hw hK
    obtain ⟨⟨old, he⟩, hit, hne⟩ := st
    obtain ⟨xs, hq, hx⟩ := hg
    obtain ⟨its, rv, p, hz⟩ := I.tuple hq
    obtain ⟨f0, f1, f2, f3, f4, f5⟩ := hf it (by simp)
    have hl := rv.length
    exact next_enum_endT (I.ok.hd hc) he hit p (by simp; omega) fun h' eb => ⟨rfl, I.turned (t' := s.toks) (fun b o hb q => eb b o hb q) f0 f1 f3 f4 f5⟩
  self := fun A i s Q E st h => let ⟨⟨_, he⟩, _⟩ := st; wpAny_pyIter_enum he h
def iEnumA (K : PySem.W.Frag) (ta : TA) : TI := fun σ H R => ta σ H fun vs H1 => ∃ a xs, vs = [.ref a] ∧ ((SqL K H1 a xs ∧ R (Ite K a) H1) ∨ (SqT K H1 a xs ∧ R (IteT K a) H1))
theorem pi_enumA {X : Cx} {e : Expr} {ta : TA} {p pos tpos : Pos} {elts : List Expr} {kk : Nat} (hg : Gl X "enumerate") (hm : X.mg "enumerate" = none) (ha : PA X [e] ta) (hs : starEach [e] X.env = [(false, eval e X.env)] := by rfl) :
    PI X (.Tuple elts kk tpos) (.Call (.Name "enumerate" p) [e] [] pos) (iEnumA X.K ta) := by
  refine ⟨fun pins s σ H R I h => ?_⟩
  refine Call_ (ld_blt I hg hm boot_enumerate (PyProof.Rows.callWith_type1 (thn (ha.run pos pins s σ H _ I h) fun us s1 ⟨vs, H1, I1, r1, q1⟩ => ?_) hs rfl))
  obtain ⟨a, xs, ex, q⟩ := q1
  subst ex
  cases r1 with
  | cons r rr =>
    cases rr
    cases r
    rcases q with ⟨hq, q⟩ | ⟨hq, q⟩
    · obtain ⟨its, rv, p', hz⟩ := I1.list hq
      refine call_enumerate_list p'.isList fun h' he hit hsz hk => wpAny_pyIter_enum he ?_
      have I2 : Inv X pins σ H1 { s1 with heap := h' } := I1.kept (t' := s1.toks) hk
      refine ⟨s1.heap.objs.size + 1, [s1.heap.objs.size + 1, s1.heap.objs.size], _, _, H1, rfl, I2, turn_enum a (s1.heap.objs.size + 1) s1.heap.objs.size, ⟨⟨.none, he⟩, hit, Nat.succ_ne_self _⟩, fun b hb => ?_, q⟩
      have e' : b = s1.heap.objs.size + 1 ∨ b = s1.heap.objs.size := by simpa using hb
      have hle : s1.heap.objs.size ≤ b := by
        rcases e' with z | z
        · rw [z]; exact Nat.le_add_right _ _
        · rw [z]; exact Nat.le_refl _
      exact I1.fpOk hle (I1.hok.fresh hle)
    · obtain ⟨its, rv, p', hz⟩ := I1.tuple hq
      refine enum_begins1 (begins_tuple a its.toArray) p' fun h' he hit hsz hk => wpAny_pyIter_enum he ?_
      have I2 : Inv X pins σ H1 { s1 with heap := h' } := I1.kept (t' := s1.toks) hk
      refine ⟨s1.heap.objs.size + 1, [s1.heap.objs.size + 1, s1.heap.objs.size], _, _, H1, rfl, I2, turn_enumT a (s1.heap.objs.size + 1) s1.heap.objs.size, ⟨⟨.none, he⟩, ⟨_, hit, rfl, rfl⟩, Nat.succ_ne_self _⟩, fun b hb => ?_, q⟩
      have e' : b = s1.heap.objs.size + 1 ∨ b = s1.heap.objs.size := by simpa using hb
      have hle : s1.heap.objs.size ≤ b := by
        rcases e' with z | z
        · rw [z]; exact Nat.le_add_right _ _
        · rw [z]; exact Nat.le_refl _
      exact I1.fpOk hle (I1.hok.fresh hle)
end ET
set_option Elab.async false
set_option linter.all false
set_option maxRecDepth 100000
set_option autoImplicit false
set_option maxHeartbeats 4000000
namespace ET
open PySem PySem.Spec PyProof.Rows L2
theorem next_enum_endL {prog : Program} {w : World} {A : Around} {E : Value → Shared → Prop} {s : Shared} {e it t : Addr} {i : Nat} {items : Array Value} {c : Int} {old : Value} {Q : Option Value → Shared → Prop} (hh : A.handled = none)
    (he : IsEnum s.heap e it c old) (hit : s.heap.IsListIter it t i) (ht : s.heap.IsList t items) (hx : items[i]? = none)
    (hQ : ∀ h', Heap.ExtBut it s.heap h' → Q none { s with heap := h' }) : wpAny (model prog w) A (pyNext (.ref e)) Q E s := by
  have ty : s.TypeIs (.ref e) "enumerate" := ⟨_, he, rfl⟩
  unfold pyNext
  refine wpAny_bind (wpAny_attempt (wpAny_callSpecial?_slot (name := Str.ofString "__next__") ty F.slot_enumerate_next
    (wpAny_call_entry F.slot_enumerate_next ty F.entry_enumerate_next ?_ (F.args_enumerate_next_1 _))))
  show wpAny _ _ (field (.ref e) 2 >>= _) _ _ _
  refine wpAny_bind (wpAny_field he rfl (x := .ref it) rfl ?_)
  refine wpAny_bind (wpAny_nextOf_list_end (A := A.in1) hh hit ht hx fun h' x e1 e2 => ?_)
  obtain ⟨o, ho, hc⟩ := e2
  refine wpAny_bind (wpAny_isInstance (T := "StopIteration") (b := true) ⟨o, ho, hc⟩ isSubtype_stop ?_)
  exact wpAny_pure (hQ _ e1)
/-- .. counted from k -/
def ItkL (K : PySem.W.Frag) (z : Int) (a : Addr) : It :=
  ⟨fun i H => ∃ (xs : List V) (x : V), SqL K H a xs ∧ xs[i]? = some x, fun i H v H' => ∃ T x, v = .ref T ∧ H T = none ∧ H' = upd H T (.tup [.int (z + (i : Nat)), x]) ∧ ∀ xs, SqL K H a xs → xs[i]? = some x, fun i H => ∃ xs : List V, SqL K H a xs ∧ xs.length ≤ i⟩
theorem turn_enkL {P : Program} {w : World} {K : PySem.W.Frag} {elts : List Expr} {kk : Nat} {tpos : Pos} (z : Int) (a e it : Addr) :
    Turn P w K (.Tuple elts kk tpos) (ItkL K z a) [e, it] e (fun i h => (∃ old, IsEnum h e it (z + ((i : Nat) : Int)) old) ∧ h.IsListIter it a i ∧ e ≠ it) where
  mem := by simp
  obj := fun i h st b hb => by
    obtain ⟨⟨old, he⟩, ⟨o, ho, hc, hd⟩, _⟩ := st
    have e' : b = e ∨ b = it := by simpa using hb
    rcases e' with y1 | y1
    · rw [y1]; exact ⟨_, he, fun v q => nomatch q⟩
    · rw [y1]; exact ⟨o, ho, fun v q => by rw [hd] at q; cases q⟩
  keep := fun i h h' st k => let ⟨⟨old, he⟩, hi, hne⟩ := st; ⟨⟨old, k e (by simp) _ he⟩, hi.at fun o q => k it (by simp) o q, hne⟩
  item := by
    intro X hP hw hK hc i pins s σ H E I hf st hg
    subst hP hw hK
    obtain ⟨⟨old, he⟩, hit, hne⟩ := st
    obtain ⟨xs, x, hq, hx⟩ := hg
    obtain ⟨its, rv, p, hz⟩ := I.list hq
    obtain ⟨u, hu, ru⟩ := rv.get hx
    have hel : e < s.heap.objs.size := Heap.lt_size he
    have hil : it < s.heap.objs.size := by obtain ⟨_, q, _⟩ := hit; exact Heap.lt_size q
    have hae : a ≠ e := fun y1 => by
      subst y1
      obtain ⟨_, o, ho, hc, _⟩ := p
      have he' : s.heap.get? a = _ := he
      rw [he'] at ho
      cases ho
      injection hc with q
      exact absurd q (by decide)
    have hai : a ≠ it := fun y1 => by
      subst y1
      obtain ⟨_, o, ho, hc, _⟩ := p
      obtain ⟨o2, ho2, hc2, _⟩ := hit
      rw [ho2] at ho
      cases ho
      rw [hc2] at hc
      injection hc with q
      exact absurd q (by decide)
    have hls : i < its.toArray.size := by
      have := (List.getElem?_eq_some_iff.mp hu).1
      simpa using this
    refine wpAny_pyNext_enum_itemC (Draws.list (A := X.A.in1) (I.ok.hd hc) it a hai its.toArray) he ⟨hit, p.isList⟩ hls hne (by simp; exact ⟨hne, fun y1 => hae y1.symm⟩) fun x' h' tk hP ho hs' hT hsz hk => ?_
    obtain rfl : u = x' := by
      have e1 : its[i]? = some x' := by simpa using hP
      rw [hu] at e1; cases e1; rfl
    refine ⟨_, rfl, wpAny_letOwnedTupleGo_enum (s := { s with heap := h', toks := tk + 1 }) ho fun h'' he' sb => ?_⟩
    have hT2 : h''.get? s.heap.objs.size = some { cls := .type "tuple", data := .seq #[.int (z + (i : Nat)) tk, u] } := (sb.2 _ (Nat.ne_of_gt hel)).trans hT
    have new : ObjOk X.prog X.w (upd H s.heap.objs.size (.tup [.int (z + (i : Nat)), x])) h'' s.heap.objs.size (.tup [.int (z + (i : Nat)), x]) :=
      ⟨by show 2 ≤ sizeLine; decide, [.int (z + (i : Nat)) tk, u], .cons ⟨_, rfl⟩ (.cons ru .nil), ⟨_, hT2, rfl, _, rfl⟩⟩
    have I1 : Inv X pins σ (upd H s.heap.objs.size (.tup [.int (z + (i : Nat)), x])) { s with heap := h'', toks := tk + 1 } :=
      I.turnedNew (ch := [e, it]) (fun b ob hb q => (sb.2 b (fun y1 => hb (by simp [y1]))).trans (hk b ob (fun y1 => hb (by simp [y1])) (fun y1 => hb (by simp [y1])) q)) hf (Nat.le_refl _) new
    refine ⟨.ref s.heap.objs.size, _, I1, rfl, ⟨_, x, rfl, I.hok.fresh (Nat.le_refl _), rfl, fun ys hy => by rw [I.list_inj hy hq]; exact hx⟩, ⟨⟨u, ?_⟩, hs'.1.at fun o q => (sb.2 it (Ne.symm hne)).trans q, hne⟩, fun b hb => ?_⟩
    · have e1 : z + ((i + 1 : Nat) : Int) = z + (i : Int) + 1 := by omega
      rw [e1]; exact he'
    · have hb' : b < s.heap.objs.size := by
        have e' : b = e ∨ b = it := by simpa using hb
        rcases e' with y1 | y1
        · rw [y1]; exact hel
        · rw [y1]; exact hil
      rw [upd_ne (Nat.ne_of_lt hb')]
      exact (hf b hb).1
  done := by
    intro X hP hw hK hc i pins s σ H E I hf st hg
    subst hP hw hK
    obtain ⟨⟨old, he⟩, hit, hne⟩ := st
    obtain ⟨xs, hq, hx⟩ := hg
    obtain ⟨its, rv, p, hz⟩ := I.list hq
    obtain ⟨f0, f1, f2, f3, f4, f5⟩ := hf it (by simp)
    have hl := rv.length
    exact next_enum_endL (I.ok.hd hc) he hit p.isList (by simp; omega) fun h' eb => ⟨rfl, I.turned (t' := s.toks) (fun b o hb q => eb b o hb q) f0 f1 f3 f4 f5⟩
  self := fun A i s Q E st h => let ⟨⟨_, he⟩, _⟩ := st; wpAny_pyIter_enum he h

/-- .. counted from k -/
def ItkT (K : PySem.W.Frag) (z : Int) (a : Addr) : It :=
  ⟨fun i H => ∃ (xs : List V) (x : V), SqT K H a xs ∧ xs[i]? = some x, fun i H v H' => ∃ T x, v = .ref T ∧ H T = none ∧ H' = upd H T (.tup [.int (z + (i : Nat)), x]) ∧ ∀ xs, SqT K H a xs → xs[i]? = some x, fun i H => ∃ xs : List V, SqT K H a xs ∧ xs.length ≤ i⟩
theorem turn_enkT {P : Program} {w : World} {K : PySem.W.Frag} {elts : List Expr} {kk : Nat} {tpos : Pos} (z : Int) (a e it : Addr) :
    Turn P w K (.Tuple elts kk tpos) (ItkT K z a) [e, it] e (fun i h => (∃ old, IsEnum h e it (z + ((i : Nat) : Int)) old) ∧ h.IsTupleIter it a i ∧ e ≠ it) where
  mem := by simp
  obj := fun i h st b hb => by
    obtain ⟨⟨old, he⟩, ⟨o, ho, hc, hd⟩, _⟩ := st
    have e' : b = e ∨ b = it := by simpa using hb
    rcases e' with y1 | y1
    · rw [y1]; exact ⟨_, he, fun v q => nomatch q⟩
    · rw [y1]; exact ⟨o, ho, fun v q => by rw [hd] at q; cases q⟩
  keep := fun i h h' st k => let ⟨⟨old, he⟩, hi, hne⟩ := st; ⟨⟨old, k e (by simp) _ he⟩, hi.at fun o q => k it (by simp) o q, hne⟩
  item := by
    intro X hP hw hK hc i pins s σ H E I hf st hg
    subst hP hw hK
    obtain ⟨⟨old, he⟩, hit, hne⟩ := st
    obtain ⟨xs, x, hq, hx⟩ := hg
    obtain ⟨its, rv, p, hz⟩ := I.tuple hq
    obtain ⟨u, hu, ru⟩ := rv.get hx
    have hel : e < s.heap.objs.size := Heap.lt_size he
    have hil : it < s.heap.objs.size := by obtain ⟨_, q, _⟩ := hit; exact Heap.lt_size q
    have hae : a ≠ e := fun y1 => by
      subst y1
      obtain ⟨o, ho, hc, _⟩ := p
      have he' : s.heap.get? a = _ := he
      rw [he'] at ho
      cases ho
      injection hc with q
      exact absurd q (by decide)
    have hai : a ≠ it := fun y1 => by
      subst y1
      obtain ⟨o, ho, hc, _⟩ := p
      obtain ⟨o2, ho2, hc2, _⟩ := hit
      rw [ho2] at ho
      cases ho
      rw [hc2] at hc
      injection hc with q
      exact absurd q (by decide)
    have hls : i < its.toArray.size := by
      have := (List.getElem?_eq_some_iff.mp hu).1
      simpa using this
    refine wpAny_pyNext_enum_itemC (Draws.tuple (A := X.A.in1) (I.ok.hd hc) it a hai its.toArray) he ⟨hit, p⟩ hls hne (by simp; exact ⟨hne, fun y1 => hae y1.symm⟩) fun x' h' tk hP ho hs' hT hsz hk => ?_
    obtain rfl : u = x' := by
      have e1 : its[i]? = some x' := by simpa using hP
      rw [hu] at e1; cases e1; rfl
    refine ⟨_, rfl, wpAny_letOwnedTupleGo_enum (s := { s with heap := h', toks := tk + 1 }) ho fun h'' he' sb => ?_⟩
    have hT2 : h''.get? s.heap.objs.size = some { cls := .type "tuple", data := .seq #[.int (z + (i : Nat)) tk, u] } := (sb.2 _ (Nat.ne_of_gt hel)).trans hT
    have new : ObjOk X.prog X.w (upd H s.heap.objs.size (.tup [.int (z + (i : Nat)), x])) h'' s.heap.objs.size (.tup [.int (z + (i : Nat)), x]) :=
      ⟨by show 2 ≤ sizeLine; decide, [.int (z + (i : Nat)) tk, u], .cons ⟨_, rfl⟩ (.cons ru .nil), ⟨_, hT2, rfl, _, rfl⟩⟩
    have I1 : Inv X pins σ (upd H s.heap.objs.size (.tup [.int (z + (i : Nat)), x])) { s with heap := h'', toks := tk + 1 } :=
      I.turnedNew (ch := [e, it]) (fun b ob hb q => (sb.2 b (fun y1 => hb (by simp [y1]))).trans (hk b ob (fun y1 => hb (by simp [y1])) (fun y1 => hb (by simp [y1])) q)) hf (Nat.le_refl _) new
    refine ⟨.ref s.heap.objs.size, _, I1, rfl, ⟨_, x, rfl, I.hok.fresh (Nat.le_refl _), rfl, fun ys hy => by rw [I.tuple_inj hy hq]; exact hx⟩, ⟨⟨u, ?_⟩, hs'.1.at fun o q => (sb.2 it (Ne.symm hne)).trans q, hne⟩, fun b hb => ?_⟩
    · have e1 : z + ((i + 1 : Nat) : Int) = z + (i : Int) + 1 := by omega
      rw [e1]; exact he'
    · have hb' : b < s.heap.objs.size := by
        have e' : b = e ∨ b = it := by simpa using hb
        rcases e' with y1 | y1
        · rw [y1]; exact hel
        · rw [y1]; exact hil
      rw [upd_ne (Nat.ne_of_lt hb')]
      exact (hf b hb).1
  done := by
    intro X hP hw hK hc i pins s σ H E I hf st hg
    subst hP hw hK
    obtain ⟨⟨old, he⟩, hit, hne⟩ := st
    obtain ⟨xs, hq, hx⟩ := hg
    obtain ⟨its, rv, p, hz⟩ := I.tuple hq
    obtain ⟨f0, f1, f2, f3, f4, f5⟩ := hf it (by simp)
    have hl := rv.length
    exact next_enum_endT (I.ok.hd hc) he hit p (by simp; omega) fun h' eb => ⟨rfl, I.turned (t' := s.toks) (fun b o hb q => eb b o hb q) f0 f1 f3 f4 f5⟩
  self := fun A i s Q E st h => let ⟨⟨_, he⟩, _⟩ := st; wpAny_pyIter_enum he h
def iEnumS (K : PySem.W.Frag) (z : Int) (ta : TA) : TI := fun σ H R => ta σ H fun vs H1 => ∃ a xs, vs = [.ref a] ∧ ((SqL K H1 a xs ∧ R (ItkL K z a) H1) ∨ (SqT K H1 a xs ∧ R (ItkT K z a) H1))
section
variable {M : Model} {A : Around} {E : Value → Shared → Prop} {s : Shared} {env : PySem.Env}
theorem callTy_kw {pos : Pos} {T : String} {x : Sem Value} {rest : List (Bool × Sem Value)} {kws : List (Option Str × Sem Value)} {Q : Value → Shared → Prop} (h1 : ((false, x) :: rest).any (·.1) = false) (h2 : kws.any (·.1.isNone) = false) (h3 : kws.all (·.1.isSome) = true)
    (g : wpAny M A (spliced ((false, x) :: rest)) (fun vs s1 => wpAny M A (evalAll (kws.map (·.2))) (fun ws s2 => wpAny M A (call (.type T) vs ((kws.filterMap (·.1)).zip ws)) Q E s2) E s1) E s) :
    wpAny M A (callWith pos (.type T) [] ((false, x) :: rest) kws) Q E s := by
  unfold callWith
  refine wpAny_bind (wpAny_holding (wpAny_mono (evalArgs_kwB (f := .type T) (Q := fun a s1 => wpAny M A (call (.type T) ([] ++ a.pos) a.kw) Q E s1) h3 g) (fun a s1 k1 => wpAny_bind (wpAny_standAt ?_)) fun _ _ y => y))
  rw [h1, h2]
  refine wpAny_bind (wpAny_pure ?_)
  exact wpAny_bind (wpAny_mono k1 (fun r s2 k2 => wpAny_bind (wpAny_holding (wpAny_point (wpAny_pure k2)))) fun _ _ y => y)
end
theorem pi_enumS {X : Cx} {e : Expr} {ta : TA} {p pos tpos cp kp : Pos} {elts : List Expr} {kk j : Nat} {z : Int} (hz : 0 ≤ z ∧ z < 1000) (hg : Gl X "enumerate") (hm : X.mg "enumerate" = none) (he : PA X [e] ta) (hs : ∀ es, starEach (e :: es) X.env = (false, eval e X.env) :: starEach es X.env) :
    PI X (.Tuple elts kk tpos) (.Call (.Name "enumerate" p) [e] [⟨some "start", .Constant (.int z) j cp, kp⟩] pos) (iEnumS X.K z ta) := by
  constructor
  intro pn s τ H R J g
  have pk : PK X [⟨some "start", .Constant (.int z) j cp, kp⟩] (tCons (tC (.int z)) tNil) := pk_cons pe_int pk_nil
  refine wpAny_Call_Name_kw (ld_blt J hg hm boot_enumerate ?_)
  have hs1 : backTo pos (starEach [e] X.env) = (false, eval e X.env) :: [] := by rw [hs]; rfl
  rw [hs1]
  refine callTy_kw rfl rfl rfl ?_
  rw [← hs1]
  refine thn (he.run pos pn s τ H _ J g) fun us s1 ⟨vs, H1, J1, r1, a, xs, ev, q⟩ => ?_
  subst ev
  refine thn (pk.run pos pn s1 τ H1 (fun ws H2 => ws = [.int z] ∧ ((SqL X.K H2 a xs ∧ R (ItkL X.K z a) H2) ∨ (SqT X.K H2 a xs ∧ R (ItkT X.K z a) H2))) J1 ⟨rfl, q⟩) fun ws s2 ⟨zs, H2, J2, r2, ez, q2⟩ => ?_
  subst ez
  cases r1 with
  | cons r rr =>
    cases rr
    cases r
    cases r2 with
    | cons r' rr' =>
      cases rr'
      obtain ⟨t, rfl⟩ := r'
      have fin : ∀ {o : Obj} {Hh : Heap → Prop} {It : L2.It} {st : Nat → Heap → Prop}, Begins (.ref a) o Hh → Hh s2.heap → (∀ h', IsEnum h' (s2.heap.objs.size + 1) s2.heap.objs.size z .none → h'.get? s2.heap.objs.size = some o → st 0 h') →
          Turn X.prog X.w X.K (.Tuple elts kk tpos) It [s2.heap.objs.size + 1, s2.heap.objs.size] (s2.heap.objs.size + 1) st → R It H2 →
          wpAny (model X.prog X.w) X.A (call (.type "enumerate") [.ref a] [("start", .int z t)]) (fun v s1 => wpAny (model X.prog X.w) X.A (pyIter v) (PIE X pn τ (.Tuple elts kk tpos) R) X.xe s1) X.xe s2 := fun {o Hh It st} B hh hst T r => by
        refine enum_begins_start B hh (by omega) (by omega) fun h' he hit hsz hk => wpAny_pyIter_enum he ?_
        have I2 : Inv X pn τ H2 { s2 with heap := h' } := J2.kept (t' := s2.toks) hk
        refine ⟨s2.heap.objs.size + 1, [s2.heap.objs.size + 1, s2.heap.objs.size], _, _, H2, rfl, I2, T, hst h' he hit, fun b hb => ?_, r⟩
        have hle : s2.heap.objs.size ≤ b := by
          rcases List.mem_cons.mp hb with w | w
          · rw [w]; exact Nat.le_succ _
          · rw [List.mem_singleton.mp w]; exact Nat.le_refl _
        exact J2.fpOk hle (J2.hok.fresh hle)
      rcases q2 with ⟨hq, q⟩ | ⟨hq, q⟩
      · obtain ⟨its, rv, p', hz'⟩ := J2.list hq
        exact fin (begins_list a its.toArray) p'.isList (fun h' he hit => ⟨⟨.none, by simpa using he⟩, ⟨_, hit, rfl, rfl⟩, Nat.succ_ne_self _⟩) (turn_enkL z a _ _) q
      · obtain ⟨its, rv, p', hz'⟩ := J2.tuple hq
        exact fin (begins_tuple a its.toArray) p' (fun h' he hit => ⟨⟨.none, by simpa using he⟩, ⟨_, hit, rfl, rfl⟩, Nat.succ_ne_self _⟩) (turn_enkT z a _ _) q
end ET
set_option Elab.async false
set_option linter.all false
set_option maxRecDepth 100000
set_option autoImplicit false
set_option maxHeartbeats 4000000
namespace ET
open PySem PySem.Spec PyProof.Rows L2 SrtO
section
variable {prog : Program} {w : World} {A : Around} {E : Value → Shared → Prop} {s : Shared}
theorem collect_tup {l : Addr} {vs : List Value} {Q : List Value → Shared → Prop} (hl : IsTup s.heap l vs.toArray)
    (h : Q vs { s with heap := (s.heap.push (seqObj "list" #[] 0)).update s.heap.objs.size (Obj.mapSeq (· ++ vs.toArray)) }) (hsz : vs.length ≤ sizeLine) :
    wpAny (model prog w) A (collect (.ref l)) Q E s := by
  obtain ⟨o, ho, hc, n, hd⟩ := id hl
  unfold collect
  refine wpAny_bind (wpAny_runValue (codeAny_builtin entry_proto_collect' ?_))
  show wpAny _ _ (do again (.builtin "list.__iadd__" ⟨[← newList [], .ref l], []⟩)) _ _ s
  refine wpAny_bind (wpAny_newList (wpAny_pure ⟨Code.quiet_builtin _ (by decide +kernel), codeAny_builtin entry_list_iadd' ?_⟩))
  show wpAny _ _ (Builtin.List.listExtendWith (.ref s.heap.objs.size) (.ref l) (.ref s.heap.objs.size)) _ _ { s with heap := s.heap.push (seqObj "list" #[] 0) }
  unfold Builtin.List.listExtendWith
  have ho' : (s.heap.push (seqObj "list" #[] 0)).get? l = some o := Heap.get?_push_of_some _ ho
  refine wpAny_bind (wpAny_typeOf (T := "tuple") ⟨o, ho', hc⟩ ?_)
  have ht : (Value.type "tuple" == Value.type "tuple") = true := by rfl
  rw [if_pos (by rw [ht]; simp)]
  refine wpAny_bind (listItems_at ho' hd ?_)
  refine wpAny_bind (listItems_at (xs := #[]) (n := 0) (Heap.get?_push_size _ rfl) rfl ?_)
  rw [if_neg (by simp)]
  refine wpAny_bind (listUpdate_at (xs := #[]) (n := 0) (Heap.get?_push_size _ rfl) rfl ?_ (Nat.zero_le _) (by show (#[] ++ vs.toArray).size ≤ sizeLine + 1; simp only [Array.size_append, List.size_toArray, List.length_nil]; omega))
  refine wpAny_pure ?_
  show wpAny (model prog w) A (do
      let o ← load s.heap.objs.size
      match o.data with
      | .seq xs _ => pure xs.toList
      | _ => unsupported "internal:collect") Q E { s with heap := (s.heap.push (seqObj "list" #[] 0)).update s.heap.objs.size (Obj.mapSeq (· ++ vs.toArray)) }
  refine wpAny_bind (wpAny_load (get?_update_seq (Heap.get?_push_size _ rfl) _) ?_)
  show wpAny _ _ (pure ((#[] : Array Value) ++ vs.toArray).toList) Q E _
  rw [show ((#[] : Array Value) ++ vs.toArray).toList = vs by simp]
  exact wpAny_pure h
theorem sorted_ordT {l : Addr} {vs : List Value} {ltv : Value → Value → Bool} {Q : Value → Shared → Prop} (O : Swo ltv) (hl : IsTup s.heap l vs.toArray) (hz : vs.length ≤ sizeLine)
    (hS : 2 ≤ vs.length → ∀ (h₁ : Heap) (a : Addr), h₁.get? a = some (seqObj "list" vs.toArray 0) → (∀ b o, s.heap.get? b = some o → b ≠ a ∧ h₁.get? b = some o) → SortableO prog w A.in1.in1 { s with heap := h₁ } a vs ltv)
    (h : ∀ out : List Value, Srtd ltv out → Stb ltv out vs → Q (.ref (s.heap.objs.size + 1)) { s with heap := sortedAll s.heap vs out.toArray }) :
    wpAny (model prog w) A (call (.builtin "sorted") [.ref l]) Q E s := by
  refine Calls.call_function_entry kind_sorted plain_sorted entry_sorted (args_sorted1 _) ?_
  unfold Builtin.«sorted»
  refine wpAny_bind (m := checkCount "sorted" 1 1 _) (wpAny_pure ?_)
  refine wpAny_bind (collect_tup hl ?_ hz)
  refine wpAny_bind (wpAny_newList ?_ hz)
  have hsz : ((s.heap.push (seqObj "list" #[] 0)).update s.heap.objs.size (Obj.mapSeq (· ++ vs.toArray))).objs.size = s.heap.objs.size + 1 := by
    rw [Heap.size_update, size_push']
  have hoL : (((s.heap.push (seqObj "list" #[] 0)).update s.heap.objs.size (Obj.mapSeq (· ++ vs.toArray))).push (seqObj "list" vs.toArray 0)).get? (s.heap.objs.size + 1) = some (seqObj "list" vs.toArray 0) := by
    rw [← hsz]; exact Heap.get?_push_size _ rfl
  have keep : ∀ b o, s.heap.get? b = some o → b ≠ s.heap.objs.size + 1 ∧ (((s.heap.push (seqObj "list" #[] 0)).update s.heap.objs.size (Obj.mapSeq (· ++ vs.toArray))).push (seqObj "list" vs.toArray 0)).get? b = some o := fun b o q => by
    have hlt : b < s.heap.objs.size := Heap.lt_size q
    refine ⟨Nat.ne_of_lt (Nat.lt_succ_of_lt hlt), Heap.get?_push_of_some _ ?_⟩
    rw [Heap.get?_update_ne _ _ _ _ (Nat.ne_of_lt hlt)]
    exact Heap.get?_push_of_some _ q
  show wpAny _ _ _ _ _ { s with heap := ((s.heap.push (seqObj "list" #[] 0)).update s.heap.objs.size (Obj.mapSeq (· ++ vs.toArray))).push (seqObj "list" vs.toArray 0) }
  rw [hsz]
  refine wpAny_bind (wpAny_holding (wpAny_call_entry slot_list_sort ⟨_, hoL, rfl⟩ entry_list_sort (list_sort_ord O hoL hz (fun h2 => hS h2 _ _ hoL keep) fun out hs hb => ⟨_, rfl, ?_⟩) (args_list_sort _)))
  exact wpAny_pure ⟨_, rfl, h out hs hb⟩
end
/-- sorted(t), t a tuple of ints -/
def rSortedIT (K : PySem.W.Frag) : List V → Hp → VK → Prop := fun vs H Q => ∃ (a : Addr) (ns : List Int), vs = [V.ref a] ∧ SqT K H a (ns.map V.int) ∧
  ∀ (ns' : List Int) (p : Addr), ns'.Perm ns → ns'.Pairwise (· ≤ ·) → H p = none → Q (.ref p) (upd H p (.lst (ns'.map V.int)))
theorem cr_sortedIT {X : Cx} : CallR X (.builtin "sorted") (rSortedIT X.K) := by
  intro pins s σ H vs us Q I r h
  obtain ⟨a, ns, rfl, hs, q⟩ := h
  obtain ⟨its, rv, hl, hz⟩ := I.tuple hs
  rw [Vals.ref1 r]
  have hi := rv.ints
  refine sorted_ordT SrtO.swo_int hl (by rw [← rv.length]; exact hz) (fun h2 h₁ a' _ _ => SrtO.ints_sortable hi h2) fun out h1 h2 => ?_
  obtain ⟨k1, k2, k3⟩ := SrtO.ints_out hi h1 h2
  obtain ⟨ep, he'⟩ := PyProof.Rows.sortedAll_at s.heap its out.toArray
  have hlen : ((out.map SrtO.iv).map V.int).length ≤ sizeLine := by
    rw [List.length_map, k2.length_eq]
    rw [List.length_map] at hz
    exact hz
  exact ⟨.ref _, upd H (s.heap.objs.size + 1) (.lst ((out.map SrtO.iv).map V.int)), I.laid (t' := s.toks) (fun _ _ => PyProof.Rows.sortedAll_old) (Nat.le_succ _) ⟨hlen, out, ep, vals_of_ints k1, he'⟩, rfl, q _ _ k2 k3 (I.hok.fresh (Nat.le_succ _))⟩
end ET
set_option Elab.async false
set_option linter.all false
set_option maxRecDepth 100000
set_option autoImplicit false
set_option maxHeartbeats 4000000
namespace Den
open PySem PySem.Spec PyProof.Rows L2
/-! ### data -/
inductive D where
  | non | bl (b : Bool) | int (i : Int) | str (s : Str)
  | lst (xs : List D) | tup (xs : List D)
  | frl (xs : List D)
  | dic (ks vs : List D)
  | obj (C : Nat) (ns : List Str) (vs : List D)
mutual
def D.same : D → D → Bool
  | .non, .non => true
  | .bl a, .bl b => decide (a = b)
  | .int a, .int b => decide (a = b)
  | .str a, .str b => decide (a = b)
  | .lst a, .lst b => D.sames a b
  | .tup a, .tup b => D.sames a b
  | .frl a, .frl b => D.sames a b
  | .dic a c, .dic b d => D.sames a b && D.sames c d
  | .obj x n a, .obj y m b => decide (x = y) && decide (n = m) && D.sames a b
  | _, _ => false
def D.sames : List D → List D → Bool
  | [], [] => true
  | x :: xs, y :: ys => D.same x y && D.sames xs ys
  | _, _ => false
end
mutual
theorem D.same_eq : ∀ a b : D, D.same a b = true → a = b
  | .non, b, h => by cases b <;> first | rfl | (simp [D.same] at h)
  | .bl x, b, h => by cases b <;> first | (simp [D.same] at h; done) | (simp [D.same] at h; rw [h])
  | .int x, b, h => by cases b <;> first | (simp [D.same] at h; done) | (simp [D.same] at h; rw [h])
  | .str x, b, h => by cases b <;> first | (simp [D.same] at h; done) | (simp [D.same] at h; rw [h])
  | .lst x, b, h => by cases b <;> first | (simp [D.same] at h; done) | (rw [D.sames_eq x _ (by simpa [D.same] using h)])
  | .tup x, b, h => by cases b <;> first | (simp [D.same] at h; done) | (rw [D.sames_eq x _ (by simpa [D.same] using h)])
  | .frl x, b, h => by cases b <;> first | (simp [D.same] at h; done) | (rw [D.sames_eq x _ (by simpa [D.same] using h)])
  | .dic x y, b, h => by
    cases b <;> first | (simp [D.same] at h; done) | skip
    rename_i u v
    simp only [D.same, Bool.and_eq_true] at h
    rw [D.sames_eq x _ h.1, D.sames_eq y _ h.2]
  | .obj c n x, b, h => by
    cases b <;> first | (simp [D.same] at h; done) | skip
    rename_i u v z
    simp only [D.same, Bool.and_eq_true, decide_eq_true_eq] at h
    rw [h.1.1, h.1.2, D.sames_eq x _ h.2]
theorem D.sames_eq : ∀ a b : List D, D.sames a b = true → a = b
  | [], b, h => by cases b <;> first | rfl | (simp [D.sames] at h)
  | x :: xs, b, h => by
    cases b with
    | nil => simp [D.sames] at h
    | cons y ys =>
      simp only [D.sames, Bool.and_eq_true] at h
      rw [D.same_eq x _ h.1, D.sames_eq xs _ h.2]
end
mutual
theorem D.same_refl : ∀ a : D, D.same a a = true
  | .non => rfl
  | .bl x | .int x | .str x => by simp [D.same]
  | .lst x | .tup x | .frl x => by simp only [D.same]; exact D.sames_refl x
  | .dic x y => by simp only [D.same, D.sames_refl x, D.sames_refl y]; rfl
  | .obj c n x => by simp [D.same, D.sames_refl x]
theorem D.sames_refl : ∀ a : List D, D.sames a a = true
  | [] => rfl
  | x :: xs => by simp [D.sames, D.same_refl x, D.sames_refl xs]
end
instance : DecidableEq D := fun a b => if h : D.same a b = true then isTrue (D.same_eq a b h) else isFalse fun e => h (by rw [e]; exact D.same_refl b)

/-- no reference -/
def D.flat : D → Bool
  | .non => true | .bl _ => true | .int _ => true | .str _ => true | _ => false
/-- a list, a dict, an instance whose parts are no references -/
def D.flat1 : D → Bool
  | .lst xs => xs.all D.flat
  | .dic _ vs => vs.all D.flat
  | .obj _ _ vs => vs.all D.flat
  | d => d.flat
mutual
/-- no reference but tuples -/
def D.tfl : D → Bool
  | .tup xs => D.tfls xs
  | .non => true | .bl _ => true | .int _ => true | .str _ => true | .lst _ => false | .dic _ _ => false | .frl _ => false | .obj _ _ _ => false
def D.tfls : List D → Bool
  | [] => true
  | x :: xs => x.tfl && D.tfls xs
end
def D.tfl1 : D → Bool
  | .lst xs => D.tfls xs
  | .dic _ vs => D.tfls vs
  | .obj _ _ vs => D.tfls vs
  | d => d.tfl
theorem D.tfls_all : ∀ xs : List D, D.tfls xs = xs.all D.tfl
  | [] => rfl
  | x :: xs => by rw [List.all_cons, ← D.tfls_all xs]; rfl
/-! ### states -/
inductive SV where
  | shr (d : D) | own (d : D) | bor (k : Nat)
structure S where
  env : List (Option SV)
  bs : List D
inductive Out (α : Type) where
  | ok (a : α) (s : S) | ex (c : Nat) (p : List (Str × D)) (s : S) | bad
def Out.bind {α β : Type} : Out α → (α → S → Out β) → Out β
  | .ok a s, f => f a s
  | .ex c p s, _ => .ex c p s
  | .bad, _ => .bad
/-- a statement's end -/
inductive O where
  | nx (s : S) | rt (v : SV) (s : S) | bk (s : S) | ct (s : S) | ex (c : Nat) (p : List (Str × D)) (s : S) | bad
def Out.to {α : Type} : Out α → (α → S → O) → O
  | .ok a s, f => f a s
  | .ex c p s, _ => .ex c p s
  | .bad, _ => .bad
def Out.opt {α : Type} (s : S) : Option α → Out α
  | some a => .ok a s
  | none => .bad
def S.slot (s : S) (i : Nat) : Option SV := (s.env[i]?).bind id
def S.data (s : S) : SV → Option D
  | .shr d => some d
  | .own d => some d
  | .bor k => s.bs[k]?
def S.put (s : S) (i : Nat) (v : SV) : S := ⟨s.env.set i (some v), s.bs⟩
def S.wipe (s : S) (is : List Nat) : S := ⟨is.foldl (fun e i => e.set i none) s.env, s.bs⟩
/-- an operand: a name's place, or a value -/
inductive PV where
  | at (i : Nat) | val (d : D) | br (k : Nat)
def S.look (s : S) : PV → Option D
  | .val d => some d
  | .at i => (s.slot i).bind s.data
  | .br k => s.bs[k]?
def S.looks (s : S) : List PV → Option (List D)
  | [] => some []
  | p :: ps => (s.look p).bind fun d => (s.looks ps).map fun ds => d :: ds
/-- a name's value given away: an owned one is shared from now on -/
def S.move (s : S) (i : Nat) : Option (D × S) :=
  match s.slot i with
  | some (.shr d) => some (d, s)
  | some (.own d) => some (d, s.put i (.shr d))
  | _ => none
/-- an operand that does not lean on a name -/
def S.fix (s : S) : PV → Option (PV × S)
  | .val d => some (.val d, s)
  | .br k => some (.br k, s)
  | .at i => match s.slot i with
    | some (.shr d) => some (.val d, s)
    | some (.own d) => some (.val d, s.put i (.shr d))
    | some (.bor k) => some (.br k, s)
    | none => none
def S.fixes (s : S) : List PV → Option (List PV × S)
  | [] => some ([], s)
  | p :: ps => match s.fix p with
    | none => none
    | some (q, s1) => match s1.fixes ps with
      | none => none
      | some (qs, s2) => some (q :: qs, s2)
/-- .. of those operands that are names -/
def S.moves (s : S) : List PV → Option S
  | [] => some s
  | .val _ :: ps => s.moves ps
  | .br _ :: _ => none
  | .at i :: ps => match s.move i with
    | some (_, s') => s'.moves ps
    | none => none
/-- what a call of a def hands over and gets back -/
inductive Arg where
  | val (d : D) | bor (d : D)
inductive OF where
  | ret (v : SV) (bs : List D) | ex (c : Nat) (p : List (Str × D)) (bs : List D) | bad
/-! ### the text -/
inductive Op where
  | add | sub | mul | fdiv | mod | pow | band | shr | neg
  | eq | ne | lt | le | gt | ge | isin | notin | isN | isnN
  | ix | sl (lo hi : Bool) | rev | lrg | trg
  | len | int1 | str1 | tuple | list | sorted | all | any | sum | max2 | min2 | divmod | isinst (ts : List Str)
inductive BM where
  | index
inductive Tg where
  | nm (i : Nat) | tup (ts : List Tg)
inductive Mu where
  | append | reverse | insert | pop | popat | extend | clear
mutual
inductive X where
  | var (i : Nat)
  | int (i : Int) | str (s : Str) | bl (b : Bool) | non
  | glo (x : Str) (d : D)
  | op (o : Op) (xs : XS)
  | lst (xs : XS) | tup (xs : XS)
  | cmp2 (o p : Op) (a b c : X)
  | and (a b : X) | or (a b : X) | not (a : X)
  | ite (t : T) (a b : X)
  | sl3 (a b c : X)
  | bm (m : BM) (o : X) (xs : XS)
  | call (f : Nat) (ms : List Bool) (xs : XS)
  | fld (cs : List Nat) (f : Str) (o : X)
  | con (cs : List Nat) (f : Str) (d : D) (o : X)
  | dget (a b : X)
  | meth (m : Str) (cs : List (Nat × Nat)) (ms : List Bool) (o : X) (xs : XS)
  | scall (f : Nat) (ms : List Bool) (xs : XS)
  | make (c f : Nat) (xs : XS)
  | mut (m : Mu) (i : Nat) (xs : XS)
  | comp (own : List (Str × Nat)) (tg : Tg) (it : It) (t : T) (e : X)
  | comp2 (own : List (Str × Nat)) (vs1 : List Nat) (tg : Tg) (it : It) (t : T) (tg1 : Tg) (it1 : It) (t1 : T) (e : X)
inductive XS where
  | nil | cons (x : X) (xs : XS)
inductive T where
  | tru | x (e : X) | isN (n : Bool) (a : X) | cmp (o : Op) (a b : X) | cmp2 (o p : Op) (a b c : X) | and (a b : T) | or (a b : T) | not (a : T)
inductive It where
  | seq (e : X) | rng (a : X) | rng2 (a b : X) | enum (e : X) | enums (e : X) (k : Int) | zip (a b : X) | rev (e : X)
end
/-! an except suite: tests of the error, values, statements -/
inductive BE where
  | isc (c : Nat) | isv | and (a b : BE) | or (a b : BE) | not (a : BE)
inductive HX where
  | lit (d : D) | var (i : Nat) | be (b : BE) | fld (f : Str) | inc (i : Nat) (k : Int)
  | tup (xs : List HX)
inductive HC where
  | pass | brk | cont
  | ret (x : HX) | retn
  | set (i : Nat) (x : HX)
  | iff (b : BE) (p q : List HC)
inductive C where
  | pass | brk | cont
  | expr (e : X)
  | set (i : Nat) (e : X)
  | setf (i : Nat) (e : X)
  | asg (t : Tg) (e : X)
  | retn | ret (e : X) | retv (i : Nat)
  | setix (i : Nat) (k e : X)
  | setfld (c i : Nat) (f : Str) (e : X)
  | iff (t : T) (a b : List C) (w : List Nat)
  | for (tg : Tg) (it : It) (b : List C) (w : List Nat)
  | while (t : T) (b : List C) (w : List Nat)
  | raise (c : Nat)
  | try1 (b : List C) (c : Nat) (i : Option Nat) (h : List HC) (w : List Nat)
/-! ### what the operations give -/
def lim : Nat := 1000000
def mulG (i j : Int) : Bool := decide ((-(2 ^ 64) < i ∧ i < 2 ^ 64) ∨ (-(2 ^ 64) < j ∧ j < 2 ^ 64))
def divG (j : Int) : Bool := decide (0 < j ∧ j < 1073741824)
mutual
def D.py : D → PyData
  | .non => .none
  | .bl b => .bool b
  | .int i => .int i
  | .str s => .str s
  | .lst xs => .list (D.pys xs)
  | .tup xs => .tuple (D.pys xs)
  | .dic _ _ => .dict []
  | .frl _ => .dict []
  | .obj _ _ _ => .dict []
def D.pys : List D → List PyData
  | [] => []
  | x :: xs => D.py x :: D.pys xs
end
def D.okq (d : D) : Bool := SeqAt.shaped d.py
def D.eqv (d e : D) : Bool := PyData.eqv d.py e.py
/-- the scalars -/
def D.v : D → Option V
  | .non => some .non | .bl b => some (.bl b) | .int i => some (.int i) | .str s => some (.str s) | _ => none
def D.scal (d e : D) : Bool := match d.v, e.v with
  | some x, some y => L2.scal x y
  | _, _ => false
def D.truth : D → Option Bool
  | .non => some false
  | .bl b => some b
  | .int i => some (i != 0)
  | .str s => if s.length ≤ lim then some ((s.length : Int) != 0) else none
  | .lst xs => some (!xs.isEmpty)
  | .tup xs => some (!xs.isEmpty)
  | _ => none
def ixI {α : Type} (xs : List α) (i : Int) : Option α := atI xs i
def cutG {α : Type} (xs : List α) (lo hi : Option Int) : List α := (xs.drop (HT.sIx xs.length 0 lo)).take (HT.sIx xs.length xs.length hi - HT.sIx xs.length 0 lo)
def D.seq : D → Option (List D)
  | .lst xs => some xs
  | .tup xs => some xs
  | _ => none
def D.ints : List D → Option (List Int)
  | [] => some []
  | .int i :: r => (D.ints r).map fun is => i :: is
  | _ => none
def D.bls : List D → Option (List Bool)
  | [] => some []
  | .bl i :: r => (D.bls r).map fun is => i :: is
  | _ => none
def D.eqq (d e : D) : Option Bool := if D.scal d e = true then some (decide (d = e)) else if (d.okq && e.okq) = true then some (D.eqv d e) else none
/-- an item among items -/
def D.isin (d : D) (xs : List D) : Option Bool :=
  if (d.flat && xs.all D.flat) = true then some (xs.any fun y => D.eqv y d) else none
/-- .. of any depth, in a list -/
def D.isinL (d : D) (xs : List D) : Option Bool :=
  if (d.flat && xs.all D.flat) = true then some (xs.any fun y => D.eqv y d) else if (d.okq && (D.lst xs).okq) = true then some (xs.any fun y => D.eqv y d) else none
def D.isObj : D → Bool
  | .obj _ _ _ => true | .frl _ => true | _ => false
def isD (d : D) (t : Str) : Option Bool :=
  if d.isObj = true then none
  else if t = "bool" then some (match d with | .bl _ => true | _ => false)
  else if t = "int" then some (match d with | .bl _ => true | .int _ => true | _ => false)
  else if t = "str" then some (match d with | .str _ => true | _ => false)
  else if t = "tuple" then some (match d with | .tup _ => true | _ => false)
  else if t = "list" then some (match d with | .lst _ => true | _ => false)
  else none
def msort (ns : List Int) : List Int := ns.mergeSort (fun a b => decide (a ≤ b))
def addS : D → D → Option SV
  | .int i, .int j => some (.shr (.int (i + j)))
  | .str i, .str j => if i.length + j.length ≤ lim then some (.shr (.str (i ++ j))) else none
  | .lst i, .lst j => if i.length + j.length ≤ lim then some (.own (.lst (i ++ j))) else none
  | .tup i, .tup j => if i.length + j.length ≤ lim then some (.shr (.tup (i ++ j))) else none
  | _, _ => none
def mulS : D → D → Option SV
  | .int i, .int j => if mulG i j = true then some (.shr (.int (i * j))) else none
  | .str z, .int k => if 0 ≤ k ∧ k ≤ 1000 ∧ z.length ≤ 1000 then some (.shr (.str (Txt.mul z k))) else none
  | _, _ => none
def ixS : D → D → Option SV
  | .lst xs, .int i => (ixI xs i).map .shr
  | .tup xs, .int i => (ixI xs i).map .shr
  | .str z, .int i => if z.length ≤ lim then (ixI z.cps.toList i).map fun c => .shr (.str ⟨#[c]⟩) else none
  | _, _ => none
def slS (lo hi : Option Int) : D → Option SV
  | .lst xs => some (.own (.lst (cutG xs lo hi)))
  | .tup xs => some (.shr (.tup (cutG xs lo hi)))
  | _ => none
def lenS : D → Option SV
  | .lst xs => some (.shr (.int xs.length))
  | .tup xs => some (.shr (.int xs.length))
  | .str z => if z.length ≤ lim then some (.shr (.int z.length)) else none
  | _ => none
def D.key : D → Bool
  | .int _ => true | .str _ => true | _ => false
def inS (d : D) : D → Option Bool
  | .dic ks _ => if d.key = true then some (ks.any fun k => decide (k = d)) else none
  | .lst xs => D.isinL d xs
  | .tup xs => D.isin d xs
  | .str z => match d with
    | .str y => some (!(Builtin.Str.occurrences z y 0 z.length 1).isEmpty)
    | _ => none
  | _ => none
/-- data that may be compared -/
def D.cmpq (d e : D) : Bool := d.okq && e.okq && PySem.W.alike d.py e.py && !(match d with | .non => true | _ => false)
def ltS : D → D → Option Bool
  | .int i, .int j => some (decide (i < j))
  | .str i, .str j => some (decide (i.cps.toList < j.cps.toList))
  | d, e => if D.cmpq d e = true then some (PySem.W.dataLt d.py e.py) else none
def leS : D → D → Option Bool
  | .int i, .int j => some (decide (i ≤ j))
  | .str i, .str j => some (!decide (j.cps.toList < i.cps.toList))
  | d, e => if D.cmpq d e = true then some (!PySem.W.dataLt e.py d.py) else none
def tupS : D → Option SV
  | .lst xs => some (.shr (.tup xs))
  | .tup xs => some (.shr (.tup xs))
  | _ => none
def lstS : D → Option SV
  | .lst xs => some (.own (.lst xs))
  | .tup xs => some (.own (.lst xs))
  | _ => none
def idxS : D → D → Option SV
  | .lst xs, d => if ((d.flat && xs.all D.flat) || (d.okq && (D.lst xs).okq)) = true then (xs.findIdx? fun y => D.eqv y d).map fun k => .shr (.int (k : Nat)) else none
  | _, _ => none
/-- a dict's value -/
def lookD (d : D) : List D → List D → Option D
  | k :: ks, v :: vs => if k = d then some v else lookD d ks vs
  | _, _ => none
def getS : D → D → Option SV
  | .dic ks vs, d => if d.key = true then (lookD d ks vs).map .shr else none
  | _, _ => none
/-- a field -/
def lookF (f : Str) : List Str → List D → Option D
  | n :: ns, v :: vs => if n = f then some v else lookF f ns vs
  | _, _ => none
def fldS (cs : List Nat) (f : Str) : D → Option SV
  | .obj c ns vs => if cs.contains c = true then (lookF f ns vs).map .shr else none
  | _ => none
def conS (cs : List Nat) (f : Str) (d : D) : D → Option SV
  | .obj c ns _ => if cs.contains c = true ∧ ns.contains f = false ∧ d.flat = true then some (.shr d) else none
  | _ => none
/-- a field is stored -/
def putFN (f : Str) : List Str → List Str
  | [] => [f]
  | n :: ns => if n = f then n :: ns else n :: putFN f ns
def putFV (f : Str) (d : D) : List Str → List D → List D
  | n :: ns, v :: vs => if n = f then d :: vs else v :: putFV f d ns vs
  | _, _ => [d]
def sfS (c : Nat) (f : Str) (d : D) : D → Option D
  | .obj c' ns vs => if c' = c ∧ ns.length = vs.length ∧ ns.length < 1000 then some (.obj c (putFN f ns) (putFV f d ns vs)) else none
  | _ => none
/-- the class's def of that name -/
def dispS (m : Str) (cs : List (Nat × Nat)) : D → Option Nat
  | .obj c ns _ => if ns.contains m = true then none else cs.lookup c
  | _ => none
def blO : Option Bool → Option SV
  | some b => some (.shr (.bl b))
  | none => none
def nblO : Option Bool → Option SV
  | some b => some (.shr (.bl (!b)))
  | none => none
def sortS : D → Option SV
  | .lst xs => (D.ints xs).map fun is => .own (.lst ((msort is).map .int))
  | .tup xs => (D.ints xs).map fun is => .own (.lst ((msort is).map .int))
  | _ => none
def opSem : Op → List D → Option SV
  | .add, [d, e] => addS d e
  | .sub, [.int i, .int j] => some (.shr (.int (i - j)))
  | .mul, [d, e] => mulS d e
  | .fdiv, [.int i, .int j] => if divG j = true then some (.shr (.int (i / j))) else none
  | .mod, [.int i, .int j] => if 0 < j then some (.shr (.int (i % j))) else none
  | .pow, [.int i, .int j] => if 0 ≤ j ∧ j ≤ 1000 ∧ i.natAbs < 2 ^ 64 then some (.shr (.int (i ^ j.toNat))) else none
  | .band, [.int i, .int j] => some (.shr (.int (Builtin.bitAnd i j)))
  | .shr, [.int i, .int j] => if 0 ≤ j then some (.shr (.int (i / 2 ^ j.toNat))) else none
  | .neg, [.int i] => some (.shr (.int (-i)))
  | .eq, [d, e] => blO (D.eqq d e)
  | .ne, [d, e] => nblO (D.eqq d e)
  | .lt, [d, e] => blO (ltS d e)
  | .le, [d, e] => blO (leS d e)
  | .gt, [d, e] => blO (ltS e d)
  | .ge, [d, e] => blO (leS e d)
  | .isin, [d, e] => blO (inS d e)
  | .notin, [d, e] => nblO (inS d e)
  | .isN, [d] => some (.shr (.bl (decide (d = .non))))
  | .isnN, [d] => some (.shr (.bl (!decide (d = .non))))
  | .ix, [d, e] => ixS d e
  | .sl false false, [d] => slS none none d
  | .sl true false, [d, .int i] => slS (some i) none d
  | .sl false true, [d, .int j] => slS none (some j) d
  | .rev, [.lst xs] => some (.own (.lst xs.reverse))
  | .lrg, [.int n] => if -1000000 ≤ n ∧ n ≤ 1000000 then some (.own (.lst ((List.range n.toNat).map fun k : Nat => D.int k))) else none
  | .trg, [.int n] => if -1000000 ≤ n ∧ n ≤ 1000000 then some (.shr (.tup ((List.range n.toNat).map fun k : Nat => D.int k))) else none
  | .len, [d] => lenS d
  | .int1, [.int i] => some (.shr (.int i))
  | .str1, [.int i] => if i.natAbs.log2 < 1920 then some (.shr (.str (toString i))) else none
  | .tuple, [d] => tupS d
  | .list, [d] => lstS d
  | .sorted, [d] => sortS d
  | .all, [.lst xs] => (D.bls xs).map fun bs => .shr (.bl (bs.all id))
  | .any, [.lst xs] => (D.bls xs).map fun bs => .shr (.bl (bs.any id))
  | .sum, [.lst xs] => (D.ints xs).map fun is => .shr (.int is.sum)
  | .max2, [.int i, .int j] => some (.shr (.int (if j > i then j else i)))
  | .min2, [.int i, .int j] => some (.shr (.int (if j < i then j else i)))
  | .divmod, [.int i, .int j] => if divG j = true then some (.shr (.tup [.int (i / j), .int (i % j)])) else none
  | .isinst [t], [d] => blO (isD d t)
  | _, _ => none
def bmTy : BM → D → Bool
  | .index, .lst _ => true
  | _, _ => false
def bmSem : BM → D → List D → Option SV
  | .index, d, [e] => idxS d e
  | _, _, _ => none
def itSem : It → List D → Option (List D)
  | .seq _, [.lst xs] => some xs
  | .seq _, [.tup xs] => some xs
  | .seq _, [.frl xs] => some xs
  | .seq _, [.str z] => some (z.cps.toList.map fun c => .str ⟨#[c]⟩)
  | .rng _, [.int n] => if -(2 ^ 62) ≤ n ∧ n < 2 ^ 62 then some ((List.range n.toNat).map fun k => .int (k : Nat)) else none
  | .rng2 _ _, [.int a, .int n] => if -(2 ^ 62) ≤ a ∧ a < 2 ^ 62 ∧ -(2 ^ 62) ≤ n ∧ n < 2 ^ 62 then some ((List.range (n - a).toNat).map fun k => .int (a + (k : Nat))) else none
  | .enum _, [.lst xs] => some (xs.zipIdx.map fun p => .tup [.int p.2, p.1])
  | .enum _, [.tup xs] => some (xs.zipIdx.map fun p => .tup [.int p.2, p.1])
  | .enums _ k, [.lst xs] => some (xs.zipIdx.map fun p => .tup [.int (k + p.2), p.1])
  | .enums _ k, [.tup xs] => some (xs.zipIdx.map fun p => .tup [.int (k + p.2), p.1])
  | .zip _ _, [.lst xs, .lst ys] => some ((xs.zip ys).map fun p => .tup [p.1, p.2])
  | .zip _ _, [.tup xs, .tup ys] => some ((xs.zip ys).map fun p => .tup [p.1, p.2])
  | .rev _, [.lst xs] => some xs.reverse
  | .rev _, [.tup xs] => some xs.reverse
  | _, _ => none
/-- the new content, the result -/
def muSem : Mu → D → List D → Option (D × D)
  | .append, .lst xs, [d] => if xs.length < lim then some (.lst (xs ++ [d]), .non) else none
  | .reverse, .lst xs, [] => some (.lst xs.reverse, .non)
  | .clear, .lst _, [] => some (.lst [], .non)
  | .pop, .lst xs, [] => (xs.getLast?).map fun d => (.lst xs.dropLast, d)
  | .popat, .lst xs, [.int i] => if 0 ≤ i ∧ i < xs.length ∧ i < 2 ^ 62 then (xs[i.toNat]?).map fun d => (.lst (xs.eraseIdx i.toNat), d) else none
  | .insert, .lst xs, [.int i, d] => if 0 ≤ i ∧ i ≤ xs.length ∧ xs.length < lim then some (.lst (xs.insertIdx i.toNat d), .non) else none
  | .extend, .lst xs, [.lst ys] => if xs.length + ys.length ≤ lim then some (.lst (xs ++ ys), .non) else none
  | _, _, _ => none
/-! ### the run -/
mutual
def S.asg : Tg → D → S → Option S
  | .nm i, d, s => some (s.put i (.shr d))
  | .tup ts, .tup ds, s => S.asgs ts ds s
  | .tup _, _, _ => none
def S.asgs : List Tg → List D → S → Option S
  | [], [], s => some s
  | t :: ts, d :: ds, s => (S.asg t d s).bind fun s' => S.asgs ts ds s'
  | _, _, _ => none
end
/-- a value given away -/
def SV.d : SV → Option D
  | .shr d => some d | .own d => some d | .bor _ => none
def S.store (s : S) (i : Nat) (d : D) : Option S := match s.slot i with
  | some (.own _) => some (s.put i (.own d))
  | some (.bor k) => some ⟨s.env, s.bs.set k d⟩
  | _ => none
/-- is it one that may be changed -/
def S.mutb (s : S) (i : Nat) : Bool := match s.slot i with
  | some (.own _) => true | some (.bor _) => true | _ => false
/-- the arguments of a call -/
def S.args (s : S) : List Bool → List PV → Option (List Arg)
  | [], [] => some []
  | false :: ms, p :: ps => (s.look p).bind fun d => (s.args ms ps).map fun as => .val d :: as
  | true :: ms, .at i :: ps => if s.mutb i = true then (s.look (.at i)).bind fun d => (s.args ms ps).map fun as => .bor d :: as else none
  | _, _ => none
def borPs : List Bool → List PV → List Nat
  | true :: ms, .at i :: ps => i :: borPs ms ps
  | _ :: ms, _ :: ps => borPs ms ps
  | _, _ => []
def valPs : List Bool → List PV → List PV
  | false :: ms, p :: ps => p :: valPs ms ps
  | _ :: ms, _ :: ps => valPs ms ps
  | _, _ => []
def atsOf : List PV → List Nat
  | [] => []
  | .at i :: ps => i :: atsOf ps
  | .val _ :: ps => atsOf ps
  | .br _ :: ps => atsOf ps
def S.stores (s : S) : List Nat → List D → Option S
  | [], [] => some s
  | i :: is, d :: ds => (s.store i d).bind fun s' => s'.stores is ds
  | _, _ => none
def SV.flat : SV → Bool
  | .shr d => d.tfl | .own d => d.tfl1 | .bor _ => false
structure Env where
  cl : Nat → List Arg → OF
  sub : Nat → Nat → Option Bool
  wf : Nat
def callRun (E : Env) (f : Nat) (ms : List Bool) (ps : List PV) (s : S) : Out SV :=
  match s.args ms ps with
  | none => .bad
  | some as => if (decide (borPs ms ps).Nodup && (atsOf (valPs ms ps)).all fun i => decide (i ∉ borPs ms ps)) = true then
      match E.cl f as with
      | .ret v bs => if (v.flat && bs.all D.tfl1) = true then match s.stores (borPs ms ps) bs with
          | none => .bad
          | some s1 => .ok v s1
        else match s.moves (valPs ms ps) with
          | none => .bad
          | some s1 => match s1.stores (borPs ms ps) bs with
            | none => .bad
            | some s2 => .ok v s2
      | .ex c p bs => if (p.isEmpty && bs.all D.tfl1) = true then match s.stores (borPs ms ps) bs with
          | none => .bad
          | some s1 => .ex c p s1
        else match s.moves (valPs ms ps) with
          | none => .bad
          | some s1 => match s1.stores (borPs ms ps) bs with
            | none => .bad
            | some s2 => .ex c p s2
      | .bad => .bad
    else .bad
/-- C(..): __init__ at f is run on a new instance -/
def makeRun (E : Env) (c f : Nat) (ps : List PV) (s : S) : Out SV :=
  match s.args (ps.map fun _ => false) ps with
  | none => .bad
  | some as => match E.cl f (.bor (.obj c [] []) :: as) with
    | .ret (.shr .non) [d] => match s.moves ps with
      | none => .bad
      | some s1 => .ok (.own d) s1
    | .ex c' p [_] => if p.isEmpty = true then .ex c' p s else match s.moves ps with
      | none => .bad
      | some s1 => .ex c' p s1
    | _ => .bad
/-- the names of a block are forgotten -/
def S.restore (s0 s : S) (is : List Nat) : S :=
  ⟨is.foldl (fun e i => e.set i (match s0.env[i]? with | some (some (.shr d)) => some (.shr d) | _ => none)) s.env, s.bs⟩
def compNext (k : List D → S → Out (List D)) (acc : List D) : Out (Option D) → Out (List D)
  | .ok (some e) s1 => if acc.length < lim then k (acc ++ [e]) s1 else .bad
  | .ok none s1 => k acc s1
  | _ => .bad
def foldNext (k : List D → S → Out (List D)) : Out (List D) → Out (List D)
  | .ok acc s1 => k acc s1
  | _ => .bad
/-- the turns of the outer one of two walks -/
def foldRun (step : List D → S → D → Out (List D)) (ok : S → Bool) : List D → List D → S → Out (List D)
  | [], acc, s => if ok s = true then .ok acc s else .bad
  | d :: ds, acc, s => if ok s = true then foldNext (foldRun step ok ds) (step acc s d) else .bad
def compRun (step : S → D → Out (Option D)) (ok : S → Bool) : List D → List D → S → Out (List D)
  | [], acc, s => if ok s = true then .ok acc s else .bad
  | d :: ds, acc, s => if ok s = true then compNext (compRun step ok ds) acc (step s d) else .bad
def pvOf : X → Out SV → S → Out PV
  | .var i, _, s => match s.slot i with
    | some _ => .ok (.at i) s
    | none => .bad
  | _, r, _ => r.bind fun v s1 => match v.d with
    | some d => .ok (.val d) s1
    | none => .bad
mutual
def evX (E : Env) : X → S → Out SV
  | .var i, s => match s.move i with
    | some (d, s1) => .ok (.shr d) s1
    | none => .bad
  | .int i, s => .ok (.shr (.int i)) s
  | .str z, s => .ok (.shr (.str z)) s
  | .bl b, s => .ok (.shr (.bl b)) s
  | .non, s => .ok (.shr .non) s
  | .glo _ d, s => .ok (.shr d) s
  | .op o xs, s => (evPs E xs s).bind fun ps s1 => .opt s1 ((s1.looks ps).bind (opSem o))
  | .lst xs, s => (evMs E xs s).bind fun ds s1 => if ds.length ≤ lim then .ok (.own (.lst ds)) s1 else .bad
  | .tup xs, s => (evMs E xs s).bind fun ds s1 => if ds.length ≤ lim then .ok (.shr (.tup ds)) s1 else .bad
  | .cmp2 o p a b c, s => (pvOf a (evX E a s) s).bind fun x s1 => (pvOf b (evX E b s1) s1).bind fun y s2 => match (s2.looks [x, y]).bind (opSem o) with
    | some (.shr (.bl true)) => (pvOf c (evX E c s2) s2).bind fun z s3 => .opt s3 ((s3.looks [y, z]).bind (opSem p))
    | some (.shr (.bl false)) => .ok (.shr (.bl false)) s2
    | _ => .bad
  | .and a b, s => (evX E a s).bind fun v s1 => match v with
    | .shr (.bl true) => evX E b s1
    | .shr (.bl false) => .ok (.shr (.bl false)) s1
    | _ => .bad
  | .or a b, s => (evX E a s).bind fun v s1 => match v with
    | .shr (.bl false) => evX E b s1
    | .shr (.bl true) => .ok (.shr (.bl true)) s1
    | _ => .bad
  | .not a, s => (evX E a s).bind fun v s1 => match v with
    | .shr (.bl b) => .ok (.shr (.bl (!b))) s1
    | _ => .bad
  | .ite t a b, s => (evT E t s).bind fun c s1 => if c = true then evX E a s1 else evX E b s1
  | .sl3 a b c, s => (pvOf a (evX E a s) s).bind fun p s1 => (pvOf b (evX E b s1) s1).bind fun q s2 => match s2.look q with
    | some (.int i) => (pvOf c (evX E c s2) s2).bind fun r s3 => match s3.look p, s3.look r with
      | some d, some (.int j) => .opt s3 (slS (some i) (some j) d)
      | _, _ => .bad
    | _ => .bad
  | .bm m o xs, s => (pvOf o (evX E o s) s).bind fun p s1 => match s1.look p with
    | some d => if bmTy m d = true then (evPs E xs s1).bind fun ps s2 => match s2.look p, s2.looks ps with
        | some d, some ds => .opt s2 (bmSem m d ds)
        | _, _ => .bad
      else .bad
    | none => .bad
  | .call f ms xs, s => (evPs E xs s).bind fun ps s1 => callRun E f ms ps s1
  | .fld cs f o, s => (pvOf o (evX E o s) s).bind fun p s1 => .opt s1 ((s1.look p).bind (fldS cs f))
  | .con cs f d o, s => (pvOf o (evX E o s) s).bind fun p s1 => .opt s1 ((s1.look p).bind (conS cs f d))
  | .dget a b, s => (pvOf a (evX E a s) s).bind fun p s1 => (pvOf b (evX E b s1) s1).bind fun q s2 => match s2.look p, s2.look q with
    | some d, some e => .opt s2 (getS d e)
    | _, _ => .bad
  | .meth m cs ms o xs, s => (pvOf o (evX E o s) s).bind fun p s1 => match (s1.look p).bind (dispS m cs) with
    | some f => (evPs E xs s1).bind fun ps s2 => callRun E f ms (p :: ps) s2
    | none => .bad
  | .scall f ms xs, s => (evPs E xs s).bind fun ps s1 => callRun E f ms ps s1
  | .make c f xs, s => (evPs E xs s).bind fun ps s1 => makeRun E c f ps s1
  | .mut m i xs, s => match s.look (.at i) with
    | some (.lst _) => (evMs E xs s).bind fun ds s1 => match (s1.look (.at i)).bind fun d => muSem m d ds with
      | some (d, r) => match s1.store i d with
        | some s2 => .ok (.shr r) s2
        | none => .bad
      | none => .bad
    | _ => .bad
  | .comp own tg it t e, s => (evIt E it s).bind fun ps s1 => match (s1.looks ps) with
    | none => .bad
    | some ds => match itSem it ds with
      | none => .bad
      | some items => (compRun (fun s d => match S.asg tg d s with
          | none => .bad
          | some s' => (evT E t s').bind fun c s2 => if c = true then (evX E e s2).bind fun v s3 => match v.d with
              | some d => .ok (some d) (s3.wipe (own.map (·.2)))
              | none => .bad
            else .ok none (s2.wipe (own.map (·.2)))) (fun s => decide (s.looks ps = some ds)) items [] (s1.wipe (own.map (·.2)))).bind fun acc s2 => .ok (.own (.lst acc)) (s1.restore s2 (own.map (·.2)))
  | .comp2 own vs1 tg it t tg1 it1 t1 e, s => (evIt E it s).bind fun ps s1 => match (s1.looks ps) with
    | none => .bad
    | some ds => match itSem it ds with
      | none => .bad
      | some items => (foldRun (fun acc s d => match S.asg tg d s with
          | none => .bad
          | some s' => (evT E t s').bind fun c s2 => if c = true then (evIt E it1 s2).bind fun ps1 s3 => match (s3.looks ps1) with
              | none => .bad
              | some ds1 => match itSem it1 ds1 with
                | none => .bad
                | some items1 => (compRun (fun s d => match S.asg tg1 d s with
                    | none => .bad
                    | some s' => (evT E t1 s').bind fun c s2 => if c = true then (evX E e s2).bind fun v s3 => match v.d with
                        | some d => .ok (some d) (s3.wipe vs1)
                        | none => .bad
                      else .ok none (s2.wipe vs1)) (fun s => decide (s.looks ps1 = some ds1)) items1 acc (s3.wipe vs1)).bind fun acc' s4 => .ok acc' (s4.wipe (own.map (·.2)))
            else .ok acc (s2.wipe (own.map (·.2)))) (fun s => decide (s.looks ps = some ds)) items [] (s1.wipe (own.map (·.2)))).bind fun acc s2 => .ok (.own (.lst acc)) (s1.restore s2 (own.map (·.2)))
def evPs (E : Env) : XS → S → Out (List PV)
  | .nil, s => .ok [] s
  | .cons x xs, s => (pvOf x (evX E x s) s).bind fun p s1 => (evPs E xs s1).bind fun ps s2 => .ok (p :: ps) s2
/-- given away -/
def evMs (E : Env) : XS → S → Out (List D)
  | .nil, s => .ok [] s
  | .cons x xs, s => (evX E x s).bind fun v s1 => match v.d with
    | some d => (evMs E xs s1).bind fun ds s2 => .ok (d :: ds) s2
    | none => .bad
def evT (E : Env) : T → S → Out Bool
  | .tru, s => .ok true s
  | .isN n a, s => (pvOf a (evX E a s) s).bind fun p s1 => .opt s1 ((s1.look p).map fun d => if n = true then !decide (d = .non) else decide (d = .non))
  | .x e, s => (pvOf e (evX E e s) s).bind fun p s1 => .opt s1 ((s1.look p).bind D.truth)
  | .cmp o a b, s => (pvOf a (evX E a s) s).bind fun x s1 => (pvOf b (evX E b s1) s1).bind fun y s2 => match (s2.looks [x, y]).bind (opSem o) with
    | some (.shr (.bl b)) => .ok b s2
    | _ => .bad
  | .cmp2 o p a b c, s => (pvOf a (evX E a s) s).bind fun x s1 => (pvOf b (evX E b s1) s1).bind fun y s2 => match (s2.looks [x, y]).bind (opSem o) with
    | some (.shr (.bl true)) => (pvOf c (evX E c s2) s2).bind fun z s3 => match (s3.looks [y, z]).bind (opSem p) with
      | some (.shr (.bl b)) => .ok b s3
      | _ => .bad
    | some (.shr (.bl false)) => .ok false s2
    | _ => .bad
  | .and a b, s => (evT E a s).bind fun c s1 => if c = true then evT E b s1 else .ok false s1
  | .or a b, s => (evT E a s).bind fun c s1 => if c = true then .ok true s1 else evT E b s1
  | .not a, s => (evT E a s).bind fun c s1 => .ok (!c) s1
def evIt (E : Env) : It → S → Out (List PV)
  | .seq e, s => (pvOf e (evX E e s) s).bind fun p s1 => .ok [p] s1
  | .rng a, s => (pvOf a (evX E a s) s).bind fun p s1 => .ok [p] s1
  | .rng2 a b, s => (pvOf a (evX E a s) s).bind fun p s1 => (pvOf b (evX E b s1) s1).bind fun q s2 => .ok [p, q] s2
  | .enum e, s => (pvOf e (evX E e s) s).bind fun p s1 => .ok [p] s1
  | .enums e _, s => (pvOf e (evX E e s) s).bind fun p s1 => .ok [p] s1
  | .zip a b, s => (pvOf a (evX E a s) s).bind fun p s1 => (pvOf b (evX E b s1) s1).bind fun q s2 => .ok [p, q] s2
  | .rev e, s => (pvOf e (evX E e s) s).bind fun p s1 => .ok [p] s1
end
def O.wipe (w : List Nat) : O → O
  | .nx s => .nx (s.wipe w)
  | o => o
def O.wipeA (w : List Nat) : O → O
  | .nx s => .nx (s.wipe w)
  | .bk s => .bk (s.wipe w)
  | .ct s => .ct (s.wipe w)
  | o => o
def O.bind : O → (S → O) → O
  | .nx s, f => f s
  | o, _ => o
def loopNext (k : S → O) (w : List Nat) : O → O
  | .nx s => k s
  | .ct s => k s
  | .bk s => .nx (s.wipe w)
  | o => o
def forRun (body : S → D → O) (ok : S → Bool) (w : List Nat) : List D → S → O
  | [], s => if ok s = true then .nx (s.wipe w) else .bad
  | d :: ds, s => if ok s = true then loopNext (forRun body ok w ds) w (body (s.wipe w) d) else .bad
def whileRun (c : S → Out Bool) (body : S → O) (w : List Nat) : Nat → S → O
  | 0, _ => .bad
  | n + 1, s => (c (s.wipe w)).to fun b s1 => if b = true then loopNext (whileRun c body w n) w (body s1) else .nx (s1.wipe w)
def evBE (sub : Nat → Nat → Option Bool) (c : Nat) : BE → Option Bool
  | .isc k => sub c k
  | .isv => (sub c c).map fun _ => true
  | .and a b => match evBE sub c a with
    | some true => evBE sub c b
    | o => o
  | .or a b => match evBE sub c a with
    | some false => evBE sub c b
    | o => o
  | .not a => (evBE sub c a).map (!·)
mutual
def evHX (sub : Nat → Nat → Option Bool) (c : Nat) (p : List (Str × D)) : HX → S → Option (D × S)
  | .lit d, s => if d.flat = true then some (d, s) else none
  | .var i, s => s.move i
  | .be b, s => if p.isEmpty = true then (evBE sub c b).map fun b => (.bl b, s) else none
  | .fld f, s => (p.lookup f).map fun d => (d, s)
  | .inc i k, s => match s.look (.at i) with
    | some (.int j) => some (.int (j + k), s)
    | _ => none
  | .tup xs, s => match evHXs sub c p xs s with
    | some (ds, s1) => if ds.length ≤ lim then some (.tup ds, s1) else none
    | none => none
def evHXs (sub : Nat → Nat → Option Bool) (c : Nat) (p : List (Str × D)) : List HX → S → Option (List D × S)
  | [], s => some ([], s)
  | x :: xs, s => match evHX sub c p x s with
    | some (d, s1) => match evHXs sub c p xs s1 with
      | some (ds, s2) => some (d :: ds, s2)
      | none => none
    | none => none
end
mutual
def exH (sub : Nat → Nat → Option Bool) (c : Nat) (p : List (Str × D)) : HC → S → O
  | .pass, s => .nx s
  | .brk, s => .bk s
  | .cont, s => .ct s
  | .retn, s => .rt (.shr .non) s
  | .ret x, s => match evHX sub c p x s with
    | some (d, s1) => .rt (.shr d) s1
    | none => .bad
  | .set i x, s => match evHX sub c p x s with
    | some (d, s1) => if i < s1.env.length then .nx (s1.put i (.shr d)) else .bad
    | none => .bad
  | .iff b h g, s => if p.isEmpty = true then match evBE sub c b with
    | some true => exHs sub c p h s
    | some false => exHs sub c p g s
    | none => .bad
    else .bad
def exHs (sub : Nat → Nat → Option Bool) (c : Nat) (p : List (Str × D)) : List HC → S → O
  | [], s => .nx s
  | h :: hs, s => (exH sub c p h s).bind fun s1 => exHs sub c p hs s1
end
mutual
def exC (E : Env) : C → S → O
  | .pass, s => .nx s
  | .brk, s => .bk s
  | .cont, s => .ct s
  | .expr e, s => (evX E e s).to fun _ s1 => .nx s1
  | .set i e, s => (evX E e s).to fun v s1 => if i < s1.env.length then .nx (s1.put i v) else .bad
  | .setf i e, s => (evX E e s).to fun v s1 => match v.d with
    | some d => if i < s1.env.length then .nx (s1.put i (.shr d)) else .bad
    | none => .bad
  | .asg t e, s => (evX E e s).to fun v s1 => match v.d with
    | some d => match S.asg t d s1 with
      | some s2 => .nx s2
      | none => .bad
    | none => .bad
  | .retn, s => .rt (.shr .non) s
  | .ret e, s => (evX E e s).to fun v s1 => .rt v s1
  | .retv i, s => match s.slot i with
    | some (.own d) => .rt (.own d) (s.wipe [i])
    | some (.shr d) => .rt (.shr d) s
    | _ => .bad
  | .setix i k e, s => (evX E e s).to fun v s1 => match v.d with
    | some d => match s1.slot i with
      | some _ => (pvOf k (evX E k s1) s1).to fun p s2 => match s2.look (.at i), s2.look p with
        | some (.lst xs), some (.int j) => match ixN xs.length j with
          | some n => match s2.store i (.lst (xs.set n d)) with
            | some s3 => .nx s3
            | none => .bad
          | none => .bad
        | _, _ => .bad
      | none => .bad
    | none => .bad
  | .setfld c i f e, s => (evX E e s).to fun v s1 => match v.d with
    | some d => match (s1.look (.at i)).bind (sfS c f d) with
      | some d2 => match s1.store i d2 with
        | some s2 => .nx s2
        | none => .bad
      | none => .bad
    | none => .bad
  | .iff t a b w, s => (evT E t s).to fun c s1 => (if c = true then exCs E a s1 else exCs E b s1).wipe w
  | .for tg it b w, s => (evIt E it s).to fun ps0 s0 => match s0.fixes ps0 with
    | none => .bad
    | some (ps, s1) => match s1.looks ps with
      | none => .bad
      | some ds => match itSem it ds with
        | none => .bad
        | some items => forRun (fun s d => match S.asg tg d s with
        | none => .bad
        | some s' => exCs E b s') (fun s => decide (s.looks ps = some ds)) w items s1
  | .while t b w, s => whileRun (evT E t) (exCs E b) w E.wf s
  | .raise c, s => .ex c [] s
  | .try1 b c i h w, s => (match exCs E b s with
    | .ex c' p s1 => match E.sub c' c with
      | some true => if (i.toList.all fun j => decide (j < s1.env.length)) = true then (exHs E.sub c' p h (s1.wipe i.toList)).wipeA i.toList else .bad
      | some false => .ex c' p s1
      | none => .bad
    | o => o).wipe w
def exCs (E : Env) : List C → S → O
  | [], s => .nx s
  | c :: cs, s => (exC E c s).bind fun s1 => exCs E cs s1
end
/-- whose it is: nobody's, a method of the class c, a staticmethod of it -/
inductive Ow where
  | no | meth (c : Nat) (m : Str) | stat (c : Nat) (m : Str)
deriving DecidableEq
structure FI where
  name : Str
  ps : List Str
  N : List Str
  ms : List Bool
  body : List C
  /-- a def that is proved by hand: what it answers, by what the others answer -/
  prim : Option ((Nat → List Arg → OF) → List Arg → OF)
  own : Ow := .no
def initEnv : List Arg → Nat → List (Option SV)
  | [], _ => []
  | .val d :: as, k => some (.shr d) :: initEnv as k
  | .bor _ :: as, k => some (.bor k) :: initEnv as (k + 1)
def initBs : List Arg → List D
  | [] => []
  | .val _ :: as => initBs as
  | .bor d :: as => d :: initBs as
def FI.init (I : FI) (as : List Arg) : S := ⟨initEnv as 0 ++ List.replicate (I.N.length - as.length) none, initBs as⟩
def O.fn : O → OF
  | .nx s => .ret (.shr .non) s.bs
  | .rt (.bor _) _ => .bad
  | .rt v s => .ret v s.bs
  | .ex c p s => .ex c p s.bs
  | _ => .bad
def Arg.m : Arg → Bool
  | .val _ => false | .bor _ => true
def runF (E : Env) (I : FI) (as : List Arg) : OF := match I.prim with
  | some g => g E.cl as
  | none => if as.map Arg.m = I.ms then (exCs E I.body (I.init as)).fn else .bad
structure Prog where
  fs : List FI
  sub : Nat → Nat → Option Bool
  wf : Nat
def Prog.call (P : Prog) : Nat → Nat → List Arg → OF
  | 0, _, _ => .bad
  | n + 1, f, as => match P.fs[f]? with
    | some I => runF ⟨P.call n, P.sub, P.wf⟩ I as
    | none => .bad
end Den
set_option Elab.async false
set_option linter.all false
set_option maxRecDepth 100000
set_option autoImplicit false
set_option maxHeartbeats 4000000
namespace Den
open PySem PySem.Spec PyProof.Rows L2
abbrev Ex := Evl.Ex
/-- an object of that content, whose parts stand in G -/
def kD : Key → D
  | .inl i => .int i
  | .inr x => .str x
section
variable (K : PySem.W.Frag) (CA : Nat → Option Addr)
mutual
/-- the value is that data -/
inductive Rep (H : Hp) : V → D → Prop
  | non : Rep H .non .non
  | bl (b : Bool) : Rep H (.bl b) (.bl b)
  | int (i : Int) : Rep H (.int i) (.int i)
  | str (x : Str) : Rep H (.str x) (.str x)
  | lst {a : Addr} {vs : List V} {ds : List D} : H a = some (.lst vs) → Reps H vs ds → Rep H (.ref a) (.lst ds)
  | tup {a : Addr} {vs : List V} {ds : List D} : SqT K H a vs → Reps H vs ds → Rep H (.ref a) (.tup ds)
  | frl {a : Addr} {vs : List V} {ds : List D} : SqL K H a vs → Reps H vs ds → Rep H (.ref a) (.frl ds)
  | dic {a : Addr} {kvs : List (Key × V)} {ds : List D} : H a = some (.dK kvs) → Reps H (kvs.map (·.2)) ds → Rep H (.ref a) (.dic (kvs.map fun p => kD p.1) ds)
  | obj {a C dx : Addr} {c : Nat} {fs : List (Str × V)} {ds : List D} : CA c = some C → H a = some (.ins C dx fs) → Reps H (fs.map (·.2)) ds → Rep H (.ref a) (.obj c (fs.map (·.1)) ds)
inductive Reps (H : Hp) : List V → List D → Prop
  | nil : Reps H [] []
  | cons {v : V} {vs : List V} {d : D} {ds : List D} : Rep H v d → Reps H vs ds → Reps H (v :: vs) (d :: ds)
end
end
section
variable {K : PySem.W.Frag} {CA : Nat → Option Addr} {H H' G G' : Hp}
theorem Rep.mono (e : Ex H H') : ∀ {v : V} {d : D}, Rep K CA H v d → Rep K CA H' v d := fun {v d} h => by
  induction h using Rep.rec (motive_2 := fun vs ds _ => Reps K CA H' vs ds) with
  | non => exact .non
  | bl b => exact .bl b
  | int i => exact .int i
  | str x => exact .str x
  | lst h _ r => exact .lst (e _ _ h) r
  | tup h _ r => exact .tup (Evl.ex_t e h) r
  | frl h _ r => exact .frl (Evl.ex_l e h) r
  | dic h _ r => exact .dic (e _ _ h) r
  | obj c h _ r => exact .obj c (e _ _ h) r
  | nil => exact .nil
  | cons _ _ r1 r2 => exact .cons r1 r2
theorem Reps.mono (e : Ex H H') : ∀ {vs : List V} {ds : List D}, Reps K CA H vs ds → Reps K CA H' vs ds
  | _, _, .nil => .nil
  | _, _, .cons r t => .cons (r.mono e) (Reps.mono e t)
theorem Reps.length : ∀ {vs : List V} {ds : List D}, Reps K CA H vs ds → vs.length = ds.length
  | _, _, .nil => rfl
  | _, _, .cons _ t => by simp [Reps.length t]
theorem Reps.get : ∀ {vs : List V} {ds : List D} {i : Nat} {d : D}, Reps K CA H vs ds → ds[i]? = some d → ∃ v, vs[i]? = some v ∧ Rep K CA H v d
  | _, _, _, _, .nil, e => by simp at e
  | _, _, 0, d, .cons r _, e => by simp at e; subst e; exact ⟨_, rfl, r⟩
  | _, _, i + 1, d, .cons _ t, e => by
    obtain ⟨u, h1, h2⟩ := Reps.get (i := i) (d := d) t (by simpa using e)
    exact ⟨u, by simpa using h1, h2⟩
theorem Reps.getV : ∀ {vs : List V} {ds : List D} {i : Nat} {v : V}, Reps K CA H vs ds → vs[i]? = some v → ∃ d, ds[i]? = some d ∧ Rep K CA H v d
  | _, _, _, _, .nil, e => by simp at e
  | _, _, 0, d, .cons r _, e => by simp at e; subst e; exact ⟨_, rfl, r⟩
  | _, _, i + 1, d, .cons _ t, e => by
    obtain ⟨u, h1, h2⟩ := Reps.getV (i := i) (v := d) t (by simpa using e)
    exact ⟨u, by simpa using h1, h2⟩
theorem Reps.append : ∀ {vs ws : List V} {ds es : List D}, Reps K CA H vs ds → Reps K CA H ws es → Reps K CA H (vs ++ ws) (ds ++ es)
  | _, _, _, _, .nil, s => s
  | _, _, _, _, .cons r t, s => .cons r (Reps.append t s)
theorem Reps.one {v : V} {d : D} (r : Rep K CA H v d) : Reps K CA H [v] [d] := .cons r .nil
theorem Reps.take : ∀ {vs : List V} {ds : List D} (n : Nat), Reps K CA H vs ds → Reps K CA H (vs.take n) (ds.take n)
  | _, _, 0, _ => .nil
  | _, _, _ + 1, .nil => .nil
  | _, _, n + 1, .cons r t => .cons r (Reps.take n t)
theorem Reps.drop : ∀ {vs : List V} {ds : List D} (n : Nat), Reps K CA H vs ds → Reps K CA H (vs.drop n) (ds.drop n)
  | _, _, 0, r => r
  | _, _, _ + 1, .nil => .nil
  | _, _, n + 1, .cons _ t => Reps.drop n t
theorem Reps.set {v : V} {d : D} (r : Rep K CA H v d) : ∀ {vs : List V} {ds : List D} (i : Nat), Reps K CA H vs ds → Reps K CA H (vs.set i v) (ds.set i d)
  | _, _, _, .nil => .nil
  | _, _, 0, .cons _ t => .cons r t
  | _, _, i + 1, .cons q t => .cons q (Reps.set r i t)
theorem Reps.reverse : ∀ {vs : List V} {ds : List D}, Reps K CA H vs ds → Reps K CA H vs.reverse ds.reverse
  | _, _, .nil => .nil
  | _, _, .cons r t => by rw [List.reverse_cons, List.reverse_cons]; exact (Reps.reverse t).append (.one r)
theorem Reps.eraseIdx : ∀ {vs : List V} {ds : List D} (i : Nat), Reps K CA H vs ds → Reps K CA H (vs.eraseIdx i) (ds.eraseIdx i)
  | _, _, _, .nil => .nil
  | _, _, 0, .cons _ t => t
  | _, _, i + 1, .cons q t => .cons q (Reps.eraseIdx i t)
theorem Reps.insertIdx {v : V} {d : D} (r : Rep K CA H v d) : ∀ {vs : List V} {ds : List D} (i : Nat), Reps K CA H vs ds → Reps K CA H (vs.insertIdx i v) (ds.insertIdx i d)
  | _, _, 0, t => .cons r t
  | _, _, _ + 1, .nil => .nil
  | _, _, i + 1, .cons q t => .cons q (Reps.insertIdx r i t)
theorem Reps.dropLast {vs : List V} {ds : List D} (h : Reps K CA H vs ds) : Reps K CA H vs.dropLast ds.dropLast := by
  rw [List.dropLast_eq_take, List.dropLast_eq_take, h.length]
  exact h.take _
/-- the flat values -/
theorem Rep.flatV {v : V} {d : D} (h : Rep K CA H v d) (f : d.flat = true) : d.v = some v := by
  cases h <;> first | rfl | (exact Bool.noConfusion f)
theorem Rep.ofV {v : V} {d : D} (h : d.v = some v) : Rep K CA H v d := by
  cases d <;> first | (cases h; constructor) | cases h
theorem D.v_flat {d : D} (h : d.flat = true) : ∃ v, d.v = some v := by
  cases d <;> first | exact ⟨_, rfl⟩ | (exact Bool.noConfusion h)
theorem Rep.int' {v : V} {i : Int} (h : Rep K CA H v (.int i)) : v = .int i := by cases h; rfl
theorem Rep.str' {v : V} {i : Str} (h : Rep K CA H v (.str i)) : v = .str i := by cases h; rfl
theorem Rep.bl' {v : V} {i : Bool} (h : Rep K CA H v (.bl i)) : v = .bl i := by cases h; rfl
theorem Rep.non' {v : V} (h : Rep K CA H v .non) : v = .non := by cases h; rfl
/-- the object at p has that content, its parts stand in G -/
inductive One (K : PySem.W.Frag) (CA : Nat → Option Addr) (G H : Hp) (p : Addr) : D → Prop
  | lst {vs : List V} {ds : List D} : H p = some (.lst vs) → Reps K CA G vs ds → One K CA G H p (.lst ds)
  | dic {kvs : List (Key × V)} {ds : List D} : H p = some (.dK kvs) → Reps K CA G (kvs.map (·.2)) ds → One K CA G H p (.dic (kvs.map fun p => kD p.1) ds)
  | obj {C dx : Addr} {c : Nat} {fs : List (Str × V)} {ds : List D} : CA c = some C → H p = some (.ins C dx fs) → Reps K CA G (fs.map (·.2)) ds → One K CA G H p (.obj c (fs.map (·.1)) ds)
theorem One.there {p : Addr} {d : D} (h : One K CA G H p d) : ∃ o, H p = some o := by
  cases h with
  | lst h _ => exact ⟨_, h⟩
  | dic h _ => exact ⟨_, h⟩
  | obj _ h _ => exact ⟨_, h⟩
theorem One.mono {p : Addr} {d : D} (h : One K CA G H p d) (eG : Ex G G') (eH : ∀ o, H p = some o → H' p = some o) : One K CA G' H' p d := by
  cases h with
  | lst h r => exact .lst (eH _ h) (r.mono eG)
  | dic h r => exact .dic (eH _ h) (r.mono eG)
  | obj c h r => exact .obj c (eH _ h) (r.mono eG)
theorem One.rep {p : Addr} {d : D} (h : One K CA G H p d) (e : Ex G H) : Rep K CA H (.ref p) d := by
  cases h with
  | lst h r => exact .lst h (r.mono e)
  | dic h r => exact .dic h (r.mono e)
  | obj c h r => exact .obj c h (r.mono e)
/-- from now on shared -/
theorem One.freeze {p : Addr} {d : D} (h : One K CA G H p d) (n : G p = none) : ∃ o, H p = some o ∧ Rep K CA (upd G p o) (.ref p) d := by
  cases h with
  | lst h r => exact ⟨_, h, .lst upd_same (r.mono (Evl.Ex.new n))⟩
  | dic h r => exact ⟨_, h, .dic upd_same (r.mono (Evl.Ex.new n))⟩
  | obj c h r => exact ⟨_, h, .obj c upd_same (r.mono (Evl.Ex.new n))⟩
theorem Ex.upd_both {p : Addr} {o : HO} (e : Ex G H) (h : H p = some o) : Ex (upd G p o) H := fun a u x => by
  by_cases z : a = p
  · subst z; rw [upd_same] at x; cases x; exact h
  · rw [upd_ne z] at x; exact e a u x
theorem Ex.upd_free {p : Addr} {o : HO} (e : Ex G H) (n : G p = none) : Ex G (upd H p o) := fun a u x => by
  rw [upd_ne (ne_of_none x n)]
  exact e a u x
theorem Ex.updU {p : Addr} {o : HO} (e : Ex G H) : Ex (upd G p o) (upd H p o) := fun a u x => by
  by_cases z : a = p
  · subst z; rw [upd_same] at x ⊢; exact x
  · rw [upd_ne z] at x ⊢; exact e a u x
end
/-! ### the state -/
/-- what is fixed in a def's run: the heap at the entry, the part of it that is shared, the objects that are lent -/
structure Fr where
  K : PySem.W.Frag
  CA : Nat → Option Addr
  H0 : Hp
  B : Hp
  rs : List Addr
def Slot (F : Fr) (G H : Hp) (v : V) : SV → Prop
  | .shr d => Rep F.K F.CA G v d
  | .own d => ∃ p, v = .ref p ∧ One F.K F.CA G H p d ∧ G p = none ∧ F.H0 p = none
  | .bor k => ∃ p, F.rs[k]? = some p ∧ v = .ref p
def SV.mutb : SV → Bool
  | .shr _ => false | .own _ => true | .bor _ => true
structure RS (F : Fr) (G H : Hp) (σ : L2.St) (s : S) : Prop where
  len : s.env.length = σ.length
  bh : Ex F.B F.H0
  nd : F.rs.Nodup
  lent : ∀ p ∈ F.rs, ∃ o, F.H0 p = some o
  keep : ∀ a o, a ∉ F.rs → F.H0 a = some o → H a = some o
  bg : Ex F.B G
  gh : Ex G H
  fresh : ∀ a, G a ≠ none → F.B a ≠ none ∨ F.H0 a = none
  blen : s.bs.length = F.rs.length
  bors : ∀ (k : Nat) (p : Addr) (d : D), F.rs[k]? = some p → s.bs[k]? = some d → One F.K F.CA G H p d ∧ G p = none
  slots : ∀ (i : Nat) (x : SV), s.env[i]? = some (some x) → ∃ v, σ[i]? = some (some v) ∧ Slot F G H v x
  inj : ∀ (i j : Nat) (x y : SV), s.env[i]? = some (some x) → s.env[j]? = some (some y) → x.mutb = true → y.mutb = true → σ[i]? = σ[j]? → i = j
section
variable {F : Fr} {G H G' H' : Hp} {σ : L2.St} {s : S}
theorem RS.brs (R : RS F G H σ s) {p : Addr} (h : p ∈ F.rs) : ∃ d, One F.K F.CA G H p d ∧ G p = none := by
  obtain ⟨k, hk, e⟩ := List.mem_iff_getElem.mp h
  have hk' : k < s.bs.length := by rw [R.blen]; exact hk
  exact ⟨_, R.bors k p s.bs[k] (by rw [List.getElem?_eq_getElem hk, e]) (List.getElem?_eq_getElem hk')⟩
theorem RS.h0 (R : RS F G H σ s) {a : Addr} (h : H a = none) : F.H0 a = none := by
  cases e : F.H0 a with
  | none => rfl
  | some o =>
    by_cases m : a ∈ F.rs
    · obtain ⟨d, q, _⟩ := R.brs m
      obtain ⟨o', q⟩ := q.there
      rw [h] at q; cases q
    · have := R.keep a o m e
      rw [h] at this; cases this
/-- what is shared grows by what is new -/
structure Grow (G H G' H' : Hp) : Prop where
  g : Ex G G'
  h : Ex H H'
  gh : Ex G' H'
  new : ∀ a, G' a ≠ none → G a ≠ none ∨ H a = none
theorem Grow.refl (e : Ex G H) : Grow G H G H := ⟨Evl.Ex.refl _, Evl.Ex.refl _, e, fun _ h => .inl h⟩
theorem Slot.grow (R : RS F G H σ s) (g : Grow G H G' H') {v : V} {x : SV} (h : Slot F G H v x) : Slot F G' H' v x := by
  cases x with
  | shr d => exact Rep.mono g.g h
  | own d =>
    obtain ⟨p, rfl, o, n, z⟩ := h
    obtain ⟨u, hu⟩ := o.there
    refine ⟨p, rfl, o.mono g.g (fun o q => g.h _ _ q), ?_, z⟩
    cases e : G' p with
    | none => rfl
    | some w =>
      rcases g.new p (by rw [e]; exact fun z => nomatch z) with q | q
      · exact absurd n q
      · rw [hu] at q; cases q
  | bor k => exact h
theorem RS.grow (R : RS F G H σ s) (g : Grow G H G' H') : RS F G' H' σ s where
  len := R.len
  bh := R.bh
  nd := R.nd
  lent := R.lent
  keep := fun a o m e => g.h _ _ (R.keep a o m e)
  bg := R.bg.trans g.g
  gh := g.gh
  fresh := fun a h => by
    rcases g.new a h with q | q
    · exact R.fresh a q
    · exact .inr (R.h0 q)
  blen := R.blen
  bors := fun k p d e1 e2 => by
    obtain ⟨o, n⟩ := R.bors k p d e1 e2
    obtain ⟨u, hu⟩ := o.there
    refine ⟨o.mono g.g (fun o q => g.h _ _ q), ?_⟩
    cases e : G' p with
    | none => rfl
    | some w =>
      rcases g.new p (by rw [e]; exact fun z => nomatch z) with q | q
      · exact absurd n q
      · rw [hu] at q; cases q
  slots := fun i x e => by
    obtain ⟨v, e1, q⟩ := R.slots i x e
    exact ⟨v, e1, q.grow R g⟩
  inj := R.inj
/-- a new object that is shared -/
theorem Grow.newG {p : Addr} {o : HO} (e : Ex G H) (h : H p = none) : Grow G H (upd G p o) (upd H p o) where
  g := Evl.Ex.new (by
    cases q : G p with
    | none => rfl
    | some u => have := e _ _ q; rw [h] at this; cases this)
  h := Evl.Ex.new h
  gh := Ex.updU e
  new := fun a q => by
    by_cases z : a = p
    · subst z; exact .inr h
    · rw [upd_ne z] at q; exact .inl q
/-- a new object that is not -/
theorem Grow.newH {p : Addr} {o : HO} (e : Ex G H) (h : H p = none) : Grow G H G (upd H p o) where
  g := Evl.Ex.refl _
  h := Evl.Ex.new h
  gh := e.trans (Evl.Ex.new h)
  new := fun a q => .inl q
theorem gnone (e : Ex G H) {p : Addr} (h : H p = none) : G p = none := by
  cases q : G p with
  | none => rfl
  | some u => have := e _ _ q; rw [h] at this; cases this
/-- a result: shared, or a new object that no name holds -/
def Res (F : Fr) (G H : Hp) (σ : L2.St) (s : S) (v : V) (x : SV) : Prop :=
  Slot F G H v x ∧ (∀ k, x ≠ .bor k) ∧ (x.mutb = true → ∀ (i : Nat) (y : SV), s.env[i]? = some (some y) → y.mutb = true → σ[i]? ≠ some (some v))
theorem Res.shr {v : V} {d : D} (h : Rep F.K F.CA G v d) : Res F G H σ s v (.shr d) := ⟨h, fun _ => (by intro z; cases z), fun z => by cases z⟩
theorem Res.own {p : Addr} {d : D} (R : RS F G H σ s) (h : H p = none) {o : HO} (e : One F.K F.CA G (upd H p o) p d) : Res F G (upd H p o) σ s (.ref p) (.own d) :=
  ⟨⟨p, rfl, e, gnone R.gh h, R.h0 h⟩, fun _ => (by intro z; cases z), fun _ i y e1 e2 q => by
    obtain ⟨v, e3, sl⟩ := R.slots i y e1
    rw [e3] at q
    cases q
    cases y with
    | shr d => cases e2
    | own d =>
      obtain ⟨p', e4, o4, _⟩ := sl
      cases e4
      obtain ⟨u, hu⟩ := o4.there
      rw [h] at hu; cases hu
    | bor k =>
      obtain ⟨p', e4, e5⟩ := sl
      cases e5
      obtain ⟨d, o4, _⟩ := R.brs (List.mem_of_getElem? e4)
      obtain ⟨u, hu⟩ := o4.there
      rw [h] at hu; cases hu⟩
/-- a result is given away -/
theorem Res.freeze {v : V} {x : SV} {d : D} (R : RS F G H σ s) (h : Res F G H σ s v x) (e : x.d = some d) : ∃ G', Ex G G' ∧ RS F G' H σ s ∧ Rep F.K F.CA G' v d := by
  obtain ⟨h, _, h3⟩ := h
  cases x with
  | shr d' => cases e; exact ⟨G, Evl.Ex.refl _, R, h⟩
  | own d' =>
    cases e
    obtain ⟨p, rfl, o, n, z⟩ := h
    obtain ⟨u, hu, r⟩ := o.freeze n
    have ex : Ex G (upd G p u) := Evl.Ex.new n
    have nm : ∀ (i : Nat) (y : SV) (q : Addr), s.env[i]? = some (some y) → y.mutb = true → σ[i]? = some (some (.ref q)) → q ≠ p := fun i y q e1 e2 e3 z => h3 rfl i y e1 e2 (by rw [e3, z])
    refine ⟨upd G p u, ex, ⟨R.len, R.bh, R.nd, R.lent, R.keep, R.bg.trans ex, Ex.upd_both R.gh hu, fun a q => ?_, R.blen, fun k p' d e1 e2 => ?_, fun i x e => ?_, R.inj⟩, r⟩
    · by_cases w : a = p
      · subst w; exact .inr z
      · rw [upd_ne w] at q; exact R.fresh a q
    · obtain ⟨o', n'⟩ := R.bors k p' d e1 e2
      have w : p' ≠ p := fun w => by
        subst w
        obtain ⟨u', hu'⟩ := R.lent p' (List.mem_of_getElem? e1)
        rw [z] at hu'; cases hu'
      exact ⟨o'.mono ex fun _ q => q, by rw [upd_ne w]; exact n'⟩
    · obtain ⟨v, e1, sl⟩ := R.slots i x e
      refine ⟨v, e1, ?_⟩
      cases x with
      | shr d => exact Rep.mono ex sl
      | bor k => exact sl
      | own d =>
        obtain ⟨p', rfl, o', n', z'⟩ := sl
        exact ⟨p', rfl, o'.mono ex fun _ q => q, by rw [upd_ne (nm i _ p' e rfl e1)]; exact n', z'⟩
  | bor k => cases e
/-- an own object becomes shared: the slots that hold it are said to hold it so -/
theorem RS.share' (R : RS F G H σ s) {i : Nat} {d : D} (h : s.slot i = some (.own d)) : ∃ G' v, Ex G G' ∧ RS F G' H σ (s.put i (.shr d)) ∧ σ[i]? = some (some v) ∧ Rep F.K F.CA G' v d ∧ ∀ a, G' a ≠ none → G a ≠ none ∨ v = .ref a := by
  have hi : s.env[i]? = some (some (.own d)) := by
    unfold S.slot at h
    cases e : s.env[i]? with
    | none => rw [e] at h; cases h
    | some x => rw [e] at h; cases x with
      | none => cases h
      | some y => simp at h; rw [h]
  obtain ⟨v, e1, p, rfl, o, n, z⟩ := R.slots i _ hi
  obtain ⟨u, hu, r⟩ := o.freeze n
  have ex : Ex G (upd G p u) := Evl.Ex.new n
  have hlt : i < s.env.length := (List.getElem?_eq_some_iff.mp hi).1
  have nm : ∀ (j : Nat) (y : SV) (q : Addr), j ≠ i → s.env[j]? = some (some y) → y.mutb = true → σ[j]? = some (some (.ref q)) → q ≠ p := fun j y q hne e1' e2 e3 w => by
    subst w
    exact hne (R.inj j i y _ e1' hi e2 rfl (by rw [e3, e1]))
  refine ⟨upd G p u, .ref p, ex, ⟨by simp [S.put, R.len], R.bh, R.nd, R.lent, R.keep, R.bg.trans ex, Ex.upd_both R.gh hu, fun a q => ?_, R.blen, fun k p' d' e1' e2' => ?_, fun j x e => ?_, fun j l x y e1' e2' m1 m2 e3' => ?_⟩, e1, r, fun a q => by
    by_cases w : a = p
    · exact .inr (by rw [w])
    · rw [upd_ne w] at q; exact .inl q⟩
  · by_cases w : a = p
    · subst w; exact .inr z
    · rw [upd_ne w] at q; exact R.fresh a q
  · obtain ⟨o', n'⟩ := R.bors k p' d' e1' e2'
    have w : p' ≠ p := fun w => by
      subst w
      obtain ⟨u', hu'⟩ := R.lent p' (List.mem_of_getElem? e1')
      rw [z] at hu'; cases hu'
    exact ⟨o'.mono ex fun _ q => q, by rw [upd_ne w]; exact n'⟩
  · by_cases hj : j = i
    · subst hj
      have : (s.put j (.shr d)).env[j]? = some (some (.shr d)) := by simp [S.put, hlt]
      rw [this] at e
      cases e
      exact ⟨_, e1, r⟩
    · have : (s.put i (.shr d)).env[j]? = s.env[j]? := by simp [S.put, List.getElem?_set_ne (Ne.symm hj)]
      rw [this] at e
      obtain ⟨v, e2, sl⟩ := R.slots j x e
      refine ⟨v, e2, ?_⟩
      cases x with
      | shr d => exact Rep.mono ex sl
      | bor k => exact sl
      | own d =>
        obtain ⟨p', rfl, o', n', z'⟩ := sl
        exact ⟨p', rfl, o'.mono ex fun _ q => q, by rw [upd_ne (nm j _ p' hj e rfl e2)]; exact n', z'⟩
  · have get : ∀ (j : Nat) (x : SV), (s.put i (.shr d)).env[j]? = some (some x) → x.mutb = true → s.env[j]? = some (some x) := fun j x e m => by
      by_cases hj : j = i
      · subst hj
        have : (s.put j (.shr d)).env[j]? = some (some (.shr d)) := by simp [S.put, hlt]
        rw [this] at e
        cases e
        cases m
      · have : (s.put i (.shr d)).env[j]? = s.env[j]? := by simp [S.put, List.getElem?_set_ne (Ne.symm hj)]
        rw [this] at e
        exact e
    exact R.inj j l x y (get j x e1' m1) (get l y e2' m2) m1 m2 e3'
theorem RS.share (R : RS F G H σ s) {i : Nat} {d : D} (h : s.slot i = some (.own d)) : ∃ G' v, Ex G G' ∧ RS F G' H σ (s.put i (.shr d)) ∧ σ[i]? = some (some v) ∧ Rep F.K F.CA G' v d := by
  obtain ⟨G', v, a, b, c, d, _⟩ := R.share' h
  exact ⟨G', v, a, b, c, d⟩
theorem slot_env {s : S} {i : Nat} {x : SV} (h : s.slot i = some x) : s.env[i]? = some (some x) := by
  unfold S.slot at h
  cases e : s.env[i]? with
  | none => rw [e] at h; cases h
  | some x => rw [e] at h; cases x with
    | none => cases h
    | some y => simp at h; rw [h]
theorem RS.move (R : RS F G H σ s) {i : Nat} {d : D} {s' : S} (h : s.move i = some (d, s')) : ∃ G' v, Ex G G' ∧ RS F G' H σ s' ∧ σ[i]? = some (some v) ∧ Rep F.K F.CA G' v d := by
  unfold S.move at h
  split at h
  · rename_i d' e
    cases h
    obtain ⟨v, e1, sl⟩ := R.slots i _ (slot_env e)
    exact ⟨G, v, Evl.Ex.refl _, R, e1, sl⟩
  · rename_i d' e
    cases h
    exact R.share e
  · cases h
theorem RS.move' (R : RS F G H σ s) {i : Nat} {d : D} {s' : S} (h : s.move i = some (d, s')) : ∃ G' v, Ex G G' ∧ RS F G' H σ s' ∧ σ[i]? = some (some v) ∧ Rep F.K F.CA G' v d ∧ ∀ a, G' a ≠ none → G a ≠ none ∨ (v = .ref a ∧ ∃ y, s.env[i]? = some (some y) ∧ y.mutb = true) := by
  unfold S.move at h
  split at h
  · rename_i d' e
    cases h
    obtain ⟨v, e1, sl⟩ := R.slots i _ (slot_env e)
    exact ⟨G, v, Evl.Ex.refl _, R, e1, sl, fun _ h => .inl h⟩
  · rename_i d' e
    cases h
    obtain ⟨G', v, a, b, c, d, n⟩ := R.share' e
    exact ⟨G', v, a, b, c, d, fun x q => (n x q).imp id fun z => ⟨z, _, slot_env e, rfl⟩⟩
  · cases h
theorem RS.moves : ∀ {ps : List PV} {G : Hp} {s s' : S}, RS F G H σ s → s.moves ps = some s' → ∃ G', Ex G G' ∧ RS F G' H σ s' ∧ (∀ i ∈ atsOf ps, ∃ d v, σ[i]? = some (some v) ∧ s.look (.at i) = some d ∧ Rep F.K F.CA G' v d) ∧ (∀ a, G' a ≠ none → G a ≠ none ∨ ∃ i ∈ atsOf ps, σ[i]? = some (some (.ref a)) ∧ ∃ y, s.env[i]? = some (some y) ∧ y.mutb = true) := by
  intro ps
  induction ps with
  | nil => intro G s s' R h; cases h; exact ⟨G, Evl.Ex.refl _, R, fun i hi => absurd hi (by simp [atsOf]), fun _ h => .inl h⟩
  | cons p ps ih =>
    intro G s s' R h
    cases p with
    | val d => exact ih R h
    | br k => cases h
    | «at» i =>
      unfold S.moves at h
      split at h
      · rename_i d s1 e
        obtain ⟨G1, v, x1, R1, e1, r1, nw⟩ := R.move' e
        obtain ⟨G2, x2, R2, hm, nw2⟩ := ih R1 h
        have ev : ∀ (j : Nat) (y : SV), s1.env[j]? = some (some y) → y.mutb = true → s.env[j]? = some (some y) := fun j y q m => by
          unfold S.move at e
          split at e
          · cases e; exact q
          · rename_i d' e'
            cases e
            have he := slot_env e'
            have hlt : i < s.env.length := (List.getElem?_eq_some_iff.mp he).1
            have q : (s.env.set i (some (.shr d)))[j]? = some (some y) := q
            by_cases hj : i = j
            · subst hj
              rw [List.getElem?_set_self hlt] at q
              cases q
              cases m
            · rw [List.getElem?_set_ne hj] at q; exact q
          · cases e
        refine ⟨G2, x1.trans x2, R2, ?_, fun a q => ?_⟩
        rotate_left
        · rcases nw2 a q with q | ⟨j, hj, q1, y, q2, q3⟩
          · rcases nw a q with q | ⟨q1, q2⟩
            · exact .inl q
            · exact .inr ⟨i, List.mem_cons_self, by rw [e1, q1], q2⟩
          · exact .inr ⟨j, List.mem_cons_of_mem _ hj, q1, y, ev j y q2 q3, q3⟩
        refine fun j hj => ?_
        -- what was looked at before the first move
        have lk : ∀ j, s1.look (.at j) = s.look (.at j) := fun j => by
          unfold S.move at e
          split at e
          · cases e; rfl
          · rename_i d' e'
            cases e
            have he := slot_env e'
            have hlt : i < s.env.length := (List.getElem?_eq_some_iff.mp he).1
            by_cases hj : j = i
            · subst hj
              have e3 : s.look (.at j) = some d := by show (s.slot j).bind s.data = some d; rw [e']; rfl
              rw [e3]
              simp [S.look, S.slot, S.put, hlt]
              rfl
            · simp [S.look, S.slot, S.put, List.getElem?_set_ne (Ne.symm hj)]
              cases s.env[j]? with
              | none => rfl
              | some y => cases y with
                | none => rfl
                | some z => cases z <;> rfl
          · cases e
        rcases List.mem_cons.mp (show j ∈ i :: atsOf ps from hj) with rfl | hj'
        · refine ⟨d, v, e1, ?_, r1.mono x2⟩
          unfold S.move at e
          split at e
          · rename_i d' e'; cases e; simp [S.look, e', S.data]
          · rename_i d' e'; cases e; simp [S.look, e', S.data]
          · cases e
        · obtain ⟨d', v', q1, q2, q3⟩ := hm j hj'
          exact ⟨d', v', q1, by rw [← lk]; exact q2, q3⟩
      · cases h
/-- the data of an operand -/
inductive Pk (F : Fr) (G H : Hp) (v : V) (d : D) : Prop
  | g : Rep F.K F.CA G v d → Pk F G H v d
  | o {p : Addr} : v = .ref p → One F.K F.CA G H p d → G p = none → Pk F G H v d
def PVOk (F : Fr) (G : Hp) (σ : L2.St) (v : V) : PV → Prop
  | .val d => Rep F.K F.CA G v d
  | .at i => σ[i]? = some (some v)
  | .br k => ∃ p, F.rs[k]? = some p ∧ v = .ref p
theorem PVOk.mono {v : V} {p : PV} (e : Ex G G') (h : PVOk F G σ v p) : PVOk F G' σ v p := by
  cases p with
  | val d => exact Rep.mono e h
  | «at» i => exact h
  | br k => exact h
theorem RS.look (R : RS F G H σ s) {v : V} {p : PV} {d : D} (h : PVOk F G σ v p) (e : s.look p = some d) : Pk F G H v d := by
  cases p with
  | val d' => cases e; exact .g h
  | «at» i =>
    have e : (s.slot i).bind s.data = some d := e
    cases hs : s.slot i with
    | none => rw [hs] at e; cases e
    | some x =>
      rw [hs] at e
      obtain ⟨v', e1, sl⟩ := R.slots i x (slot_env hs)
      have h' : σ[i]? = some (some v) := h
      rw [h'] at e1
      cases e1
      cases x with
      | shr d' => cases e; exact .g sl
      | own d' =>
        cases e
        obtain ⟨p, rfl, o, n, _⟩ := sl
        exact .o rfl o n
      | bor k =>
        obtain ⟨p, e2, rfl⟩ := sl
        obtain ⟨o, n⟩ := R.bors k p d e2 e
        exact .o rfl o n
  | br k =>
    obtain ⟨p, e2, rfl⟩ := h
    obtain ⟨o, n⟩ := R.bors k p d e2 e
    exact .o rfl o n
/-- a list of operands -/
def PVs (F : Fr) (G : Hp) (σ : L2.St) : List V → List PV → Prop
  | [], [] => True
  | v :: vs, p :: ps => PVOk F G σ v p ∧ PVs F G σ vs ps
  | _, _ => False
theorem PVs.mono : ∀ {vs : List V} {ps : List PV}, Ex G G' → PVs F G σ vs ps → PVs F G' σ vs ps
  | [], [], _, _ => trivial
  | v :: vs, p :: ps, e, ⟨h, t⟩ => ⟨h.mono e, PVs.mono e t⟩
  | [], _ :: _, _, h => h
  | _ :: _, [], _, h => h
def Pks (F : Fr) (G H : Hp) : List V → List D → Prop
  | [], [] => True
  | v :: vs, d :: ds => Pk F G H v d ∧ Pks F G H vs ds
  | _, _ => False
theorem RS.looks (R : RS F G H σ s) : ∀ {vs : List V} {ps : List PV} {ds : List D}, PVs F G σ vs ps → s.looks ps = some ds → Pks F G H vs ds
  | [], [], ds, _, e => by
    unfold S.looks at e; cases e; trivial
  | v :: vs, p :: ps, ds, ⟨h, t⟩, e => by
    unfold S.looks at e
    cases hd : s.look p with
    | none => rw [hd] at e; cases e
    | some d =>
      rw [hd] at e
      cases ht : s.looks ps with
      | none => rw [ht] at e; cases e
      | some ds' =>
        rw [ht] at e
        cases e
        exact ⟨R.look h hd, RS.looks R t ht⟩
  | [], _ :: _, _, h, _ => h.elim
  | _ :: _, [], _, h, _ => h.elim
/-- an operand freed from its name -/
def noAt : List PV → Bool
  | [] => true
  | .at _ :: _ => false
  | _ :: ps => noAt ps
theorem RS.fix (R : RS F G H σ s) {v : V} {p q : PV} {s' : S} (h : PVOk F G σ v p) (e : s.fix p = some (q, s')) : ∃ G', Ex G G' ∧ RS F G' H σ s' ∧ PVOk F G' σ v q ∧ noAt [q] = true := by
  cases p with
  | val d => cases e; exact ⟨G, Evl.Ex.refl _, R, h, rfl⟩
  | br k => cases e; exact ⟨G, Evl.Ex.refl _, R, h, rfl⟩
  | «at» i =>
    have h' : σ[i]? = some (some v) := h
    unfold S.fix at e
    split at e
    · rename_i h1; cases h1
    · rename_i h1; cases h1
    · rename_i j h1
      cases h1
      split at e
      · rename_i d e1
        cases e
        obtain ⟨w, e2, sl⟩ := R.slots i _ (slot_env e1)
        rw [h'] at e2
        cases e2
        exact ⟨G, Evl.Ex.refl _, R, sl, rfl⟩
      · rename_i d e1
        cases e
        obtain ⟨G', w, x1, R1, e2, r1⟩ := R.share e1
        rw [h'] at e2
        cases e2
        exact ⟨G', x1, R1, r1, rfl⟩
      · rename_i k e1
        cases e
        obtain ⟨w, e2, p, e3, rfl⟩ := R.slots i _ (slot_env e1)
        rw [h'] at e2
        cases e2
        exact ⟨G, Evl.Ex.refl _, R, ⟨p, e3, rfl⟩, rfl⟩
      · cases e
theorem noAt_cons {p : PV} {ps : List PV} (h1 : noAt [p] = true) (h2 : noAt ps = true) : noAt (p :: ps) = true := by
  cases p with
  | «at» i => cases h1
  | val d => exact h2
  | br k => exact h2
theorem RS.fixes : ∀ {vs : List V} {ps qs : List PV} {G : Hp} {s s' : S}, RS F G H σ s → PVs F G σ vs ps → s.fixes ps = some (qs, s') → ∃ G', Ex G G' ∧ RS F G' H σ s' ∧ PVs F G' σ vs qs ∧ noAt qs = true
  | [], [], qs, G, s, s', R, _, e => by
    unfold S.fixes at e
    cases e
    exact ⟨G, Evl.Ex.refl _, R, trivial, rfl⟩
  | v :: vs, p :: ps, qs, G, s, s', R, ⟨h, t⟩, e => by
    unfold S.fixes at e
    split at e
    · cases e
    · rename_i q s1 e1
      obtain ⟨G1, x1, R1, p1, n1⟩ := R.fix h e1
      split at e
      · cases e
      · rename_i qs' s2 e2
        cases e
        obtain ⟨G2, x2, R2, p2, n2⟩ := RS.fixes R1 (t.mono x1) e2
        exact ⟨G2, x1.trans x2, R2, ⟨p1.mono x2, p2⟩, noAt_cons n1 n2⟩
  | [], _ :: _, _, _, _, _, _, h, _ => h.elim
  | _ :: _, [], _, _, _, _, _, h, _ => h.elim
theorem PVs.free {σ' : L2.St} : ∀ {vs : List V} {ps : List PV}, noAt ps = true → PVs F G σ vs ps → PVs F G σ' vs ps
  | [], [], _, _ => trivial
  | v :: vs, .val d :: ps, n, ⟨h, t⟩ => ⟨h, PVs.free (ps := ps) n t⟩
  | v :: vs, .br d :: ps, n, ⟨h, t⟩ => ⟨h, PVs.free (ps := ps) n t⟩
  | _, .at _ :: _, n, _ => by cases n
  | [], _ :: _, _, h => h.elim
  | _ :: _, [], _, h => h.elim
section
variable {v : V}
theorem Pk.flat {d : D} (h : Pk F G H v d) (f : d.flat = true) : d.v = some v := by
  cases h with
  | g h => exact h.flatV f
  | o _ o _ => cases o <;> cases f
theorem Pk.int {i : Int} (h : Pk F G H v (.int i)) : v = .int i := (Option.some.inj (h.flat rfl)).symm
theorem Pk.str {i : Str} (h : Pk F G H v (.str i)) : v = .str i := (Option.some.inj (h.flat rfl)).symm
theorem Pk.bl {i : Bool} (h : Pk F G H v (.bl i)) : v = .bl i := (Option.some.inj (h.flat rfl)).symm
theorem Pk.non (h : Pk F G H v .non) : v = .non := (Option.some.inj (h.flat rfl)).symm
theorem Pk.lst {ds : List D} (e : Ex G H) (h : Pk F G H v (.lst ds)) : ∃ p vs, v = .ref p ∧ H p = some (.lst vs) ∧ Reps F.K F.CA G vs ds := by
  cases h with
  | g h =>
    cases h with
    | lst h r => exact ⟨_, _, rfl, e _ _ h, r⟩
  | o hv o _ =>
    cases o with
    | lst h r => exact ⟨_, _, hv, h, r⟩
theorem Pk.tup {ds : List D} (e : Ex G H) (h : Pk F G H v (.tup ds)) : ∃ p vs, v = .ref p ∧ SqT F.K H p vs ∧ Reps F.K F.CA G vs ds := by
  cases h with
  | g h =>
    cases h with
    | tup h r => exact ⟨_, _, rfl, Evl.ex_t e h, r⟩
  | o hv o _ => cases o
theorem Pk.frl {ds : List D} (e : Ex G H) (h : Pk F G H v (.frl ds)) : ∃ p vs, v = .ref p ∧ SqL F.K H p vs ∧ Reps F.K F.CA G vs ds := by
  cases h with
  | g h =>
    cases h with
    | frl h r => exact ⟨_, _, rfl, Evl.ex_l e h, r⟩
  | o hv o _ => cases o
theorem Pk.tupG {ds : List D} (h : Pk F G H v (.tup ds)) : Rep F.K F.CA G v (.tup ds) := by
  cases h with
  | g h => exact h
  | o hv o _ => cases o
theorem Pk.dic {ks ds : List D} (e : Ex G H) (h : Pk F G H v (.dic ks ds)) : ∃ p kvs, v = .ref p ∧ H p = some (.dK kvs) ∧ ks = kvs.map (fun p => kD p.1) ∧ Reps F.K F.CA G (kvs.map (·.2)) ds := by
  cases h with
  | g h =>
    cases h with
    | dic h r => exact ⟨_, _, rfl, e _ _ h, rfl, r⟩
  | o hv o _ =>
    cases o with
    | dic h r => exact ⟨_, _, hv, h, rfl, r⟩
theorem Pk.obj {c : Nat} {ns : List Str} {ds : List D} (e : Ex G H) (h : Pk F G H v (.obj c ns ds)) : ∃ p C dx fs, v = .ref p ∧ F.CA c = some C ∧ H p = some (.ins C dx fs) ∧ ns = fs.map (·.1) ∧ Reps F.K F.CA G (fs.map (·.2)) ds := by
  cases h with
  | g h =>
    cases h with
    | obj c h r => exact ⟨_, _, _, _, rfl, c, e _ _ h, rfl, r⟩
  | o hv o _ =>
    cases o with
    | obj c h r => exact ⟨_, _, _, _, hv, c, h, rfl, r⟩
/-- as a whole, in the whole heap -/
theorem Pk.rep {d : D} (e : Ex G H) (h : Pk F G H v d) : Rep F.K F.CA H v d := by
  cases h with
  | g h => exact h.mono e
  | o hv o _ => subst hv; exact o.rep e
theorem Pk.grow {d : D} (R : RS F G H σ s) (g : Grow G H G' H') (h : Pk F G H v d) : Pk F G' H' v d := by
  cases h with
  | g h => exact .g (h.mono g.g)
  | o hv o n =>
    obtain ⟨u, hu⟩ := o.there
    refine .o hv (o.mono g.g fun o q => g.h _ _ q) ?_
    cases e : G' _ with
    | none => rfl
    | some w =>
      rcases g.new _ (by rw [e]; exact fun z => nomatch z) with q | q
      · exact absurd n q
      · rw [hu] at q; cases q
end
end
end Den
set_option Elab.async false
set_option linter.all false
set_option maxRecDepth 100000
set_option autoImplicit false
set_option maxHeartbeats 4000000
namespace Den
open PySem PySem.Spec PyProof.Rows L2
section
variable {F : Fr} {G H G' H' : Hp} {σ : L2.St} {s s' : S}
/-- fewer claims -/
theorem RS.sub (R : RS F G H σ s) (hl : s'.env.length = s.env.length) (h : ∀ (i : Nat) (x : SV), s'.env[i]? = some (some x) → s.env[i]? = some (some x)) (hb : s'.bs = s.bs) : RS F G H σ s' where
  len := by rw [hl]; exact R.len
  bh := R.bh
  nd := R.nd
  lent := R.lent
  keep := R.keep
  bg := R.bg
  gh := R.gh
  fresh := R.fresh
  blen := by rw [hb]; exact R.blen
  bors := fun k p d e1 e2 => R.bors k p d e1 (by rw [← hb]; exact e2)
  slots := fun i x e => R.slots i x (h i x e)
  inj := fun i j x y e1 e2 => R.inj i j x y (h i x e1) (h j y e2)
theorem foldl_set_len {α : Type} (v : α) : ∀ (is : List Nat) (e : List α), (is.foldl (fun e i => e.set i v) e).length = e.length
  | [], _ => rfl
  | i :: is, e => by rw [List.foldl_cons, foldl_set_len v is]; exact List.length_set
theorem foldl_none {x : SV} {j : Nat} : ∀ {is : List Nat} {e : List (Option SV)}, (is.foldl (fun e i => e.set i none) e)[j]? = some (some x) → e[j]? = some (some x) ∧ j ∉ is
  | [], _, h => ⟨h, by simp⟩
  | i :: is, e, h => by
    obtain ⟨h1, h2⟩ := foldl_none (is := is) (e := e.set i none) h
    by_cases z : i = j
    · subst z
      by_cases hv : i < e.length
      · rw [List.getElem?_set_self hv] at h1; cases h1
      · rw [List.getElem?_eq_none (by simpa using hv)] at h1; cases h1
    · rw [List.getElem?_set_ne z] at h1
      exact ⟨h1, by simp only [List.mem_cons, not_or]; exact ⟨fun e => z e.symm, h2⟩⟩
theorem RS.wipe (R : RS F G H σ s) (w : List Nat) : RS F G H σ (s.wipe w) := R.sub (foldl_set_len none w s.env) (fun i x e => (foldl_none e).1) rfl
theorem wipeS_get {x : Option V} {i : Nat} {vs : List Nat} (h : i ∉ vs) : (L2.wipe σ vs)[i]? = σ[i]? := by
  induction vs with
  | nil => rfl
  | cons v vs ih =>
    simp only [List.mem_cons, not_or] at h
    unfold L2.wipe
    rw [List.getElem?_set_ne (Ne.symm h.1)]
    exact ih h.2
/-- into a block: its names are forgotten on both sides -/
theorem RS.blk (R : RS F G H σ s) (w : List Nat) : RS F G H (L2.wipe σ w) (s.wipe w) where
  len := by rw [L2.wipe_length]; exact (foldl_set_len none w s.env).trans R.len
  bh := R.bh
  nd := R.nd
  lent := R.lent
  keep := R.keep
  bg := R.bg
  gh := R.gh
  fresh := R.fresh
  blen := R.blen
  bors := R.bors
  slots := fun i x e => by
    obtain ⟨e1, e2⟩ := foldl_none e
    rw [wipeS_get (x := none) e2]
    exact R.slots i x e1
  inj := fun i j x y e1 e2 m1 m2 q => by
    obtain ⟨a1, a2⟩ := foldl_none e1
    obtain ⟨b1, b2⟩ := foldl_none e2
    rw [wipeS_get (x := none) a2, wipeS_get (x := none) b2] at q
    exact R.inj i j x y a1 b1 m1 m2 q
theorem foldl_res {f : Nat → Option SV} {x : SV} {j : Nat} : ∀ {is : List Nat} {e : List (Option SV)}, (is.foldl (fun e i => e.set i (f i)) e)[j]? = some (some x) → (j ∈ is ∧ f j = some x) ∨ (j ∉ is ∧ e[j]? = some (some x))
  | [], _, h => .inr ⟨by simp, h⟩
  | i :: is, e, h => by
    rcases foldl_res (is := is) (e := e.set i (f i)) h with ⟨h1, h2⟩ | ⟨h1, h2⟩
    · exact .inl ⟨List.mem_cons_of_mem _ h1, h2⟩
    · by_cases z : i = j
      · subst z
        by_cases hv : i < e.length
        · rw [List.getElem?_set_self hv] at h2
          exact .inl ⟨List.mem_cons_self, Option.some.inj h2⟩
        · rw [List.getElem?_eq_none (by simpa using hv)] at h2; cases h2
      · rw [List.getElem?_set_ne z] at h2
        exact .inr ⟨by simp only [List.mem_cons, not_or]; exact ⟨fun e => z e.symm, h1⟩, h2⟩
theorem foldl_f_len (f : Nat → Option SV) : ∀ (is : List Nat) (e : List (Option SV)), (is.foldl (fun e i => e.set i (f i)) e).length = e.length
  | [], _ => rfl
  | i :: is, e => by rw [List.foldl_cons, foldl_f_len f is]; exact List.length_set
/-- out of a block -/
theorem RS.restore {s0 : S} {G0 H0 : Hp} {w : List Nat} (R0 : RS F G0 H0 σ s0) (x0 : Ex G0 G) (R : RS F G H (L2.wipe σ w) s) : RS F G H σ (s0.restore s w) where
  len := by
    rw [show (s0.restore s w).env.length = s.env.length from foldl_f_len _ w s.env, R.len, L2.wipe_length]
  bh := R.bh
  nd := R.nd
  lent := R.lent
  keep := R.keep
  bg := R.bg
  gh := R.gh
  fresh := R.fresh
  blen := R.blen
  bors := R.bors
  slots := fun i x e => by
    rcases foldl_res e with ⟨h1, h2⟩ | ⟨h1, h2⟩
    · split at h2
      · rename_i d e2
        cases h2
        obtain ⟨v, e3, sl⟩ := R0.slots i _ e2
        exact ⟨v, e3, Rep.mono x0 sl⟩
      · cases h2
    · have := R.slots i x h2
      rw [wipeS_get (x := none) h1] at this
      exact this
  inj := fun i j x y e1 e2 m1 m2 q => by
    have aux : ∀ (i : Nat) (x : SV), (s0.restore s w).env[i]? = some (some x) → x.mutb = true → i ∉ w ∧ s.env[i]? = some (some x) := fun i x e m => by
      rcases foldl_res e with ⟨h1, h2⟩ | h
      · split at h2
        · cases h2; cases m
        · cases h2
      · exact h
    obtain ⟨a1, a2⟩ := aux i x e1 m1
    obtain ⟨b1, b2⟩ := aux j y e2 m2
    exact R.inj i j x y a2 b2 m1 m2 (by rw [wipeS_get (x := none) a1, wipeS_get (x := none) b1]; exact q)
/-- a name is given a result -/
theorem RS.put (R : RS F G H σ s) {i : Nat} {v : V} {x : SV} (h : Res F G H σ s v x) : RS F G H (σ.set i (some v)) (s.put i x) where
  len := by simp [S.put, R.len]
  bh := R.bh
  nd := R.nd
  lent := R.lent
  keep := R.keep
  bg := R.bg
  gh := R.gh
  fresh := R.fresh
  blen := R.blen
  bors := R.bors
  slots := fun j y e => by
    have e : (s.env.set i (some x))[j]? = some (some y) := e
    by_cases hj : i = j
    · subst hj
      by_cases hl : i < s.env.length
      · rw [List.getElem?_set_self hl] at e
        cases e
        exact ⟨v, List.getElem?_set_self (by rw [← R.len]; exact hl), h.1⟩
      · rw [List.getElem?_eq_none (by simpa using hl)] at e; cases e
    · rw [List.getElem?_set_ne hj] at e ⊢
      exact R.slots j y e
  inj := fun j l y z e1 e2 m1 m2 q => by
    have e1 : (s.env.set i (some x))[j]? = some (some y) := e1
    have e2 : (s.env.set i (some x))[l]? = some (some z) := e2
    by_cases hj : i = j
    · by_cases hl : i = l
      · rw [← hj, ← hl]
      · subst hj
        have hlt : i < s.env.length := by
          have := (List.getElem?_eq_some_iff.mp e1).1
          simpa using this
        rw [List.getElem?_set_self hlt] at e1
        cases e1
        rw [List.getElem?_set_ne hl] at e2 q
        rw [List.getElem?_set_self (by rw [← R.len]; exact hlt)] at q
        exact absurd q.symm (h.2.2 m1 l z e2 m2)
    · rw [List.getElem?_set_ne hj] at e1 q
      by_cases hl : i = l
      · subst hl
        have hlt : i < s.env.length := by
          have := (List.getElem?_eq_some_iff.mp e2).1
          simpa using this
        rw [List.getElem?_set_self hlt] at e2
        cases e2
        rw [List.getElem?_set_self (by rw [← R.len]; exact hlt)] at q
        exact absurd q (h.2.2 m2 j y e1 m1)
      · rw [List.getElem?_set_ne hl] at e2 q
        exact R.inj j l y z e1 e2 m1 m2 q
/-- the content of an object that may be changed is changed -/
theorem RS.store (R : RS F G H σ s) {i : Nat} {d : D} (h : s.store i d = some s') : ∃ p, σ[i]? = some (some (.ref p)) ∧ G p = none ∧ (∀ o, One F.K F.CA G (upd H p o) p d → RS F G (upd H p o) σ s') := by
  unfold S.store at h
  split at h
  · rename_i d0 e
    cases h
    have he := slot_env e
    have hlt : i < s.env.length := (List.getElem?_eq_some_iff.mp he).1
    obtain ⟨v, e1, p, rfl, o1, n, z⟩ := R.slots i _ he
    have get : ∀ (j : Nat) (x : SV), (s.put i (.own d)).env[j]? = some (some x) → (j = i ∧ x = .own d) ∨ (j ≠ i ∧ s.env[j]? = some (some x)) := fun j x e => by
      by_cases hj : j = i
      · subst hj
        have : (s.put j (.own d)).env[j]? = some (some (.own d)) := by simp [S.put, hlt]
        rw [this] at e
        cases e
        exact .inl ⟨rfl, rfl⟩
      · have : (s.put i (.own d)).env[j]? = s.env[j]? := by simp [S.put, List.getElem?_set_ne (Ne.symm hj)]
        rw [this] at e
        exact .inr ⟨hj, e⟩
    refine ⟨p, e1, n, fun o ho => ⟨by simp [S.put, R.len], R.bh, R.nd, R.lent, fun a u m e => ?_, R.bg, Ex.upd_free R.gh n, R.fresh, R.blen, fun k p' d' q1 q2 => ?_, fun j x e => ?_, fun j l x y q1 q2 m1 m2 q3 => ?_⟩⟩
    · have hne : a ≠ p := fun w => by subst w; rw [z] at e; cases e
      rw [upd_ne hne]
      exact R.keep a u m e
    · obtain ⟨o', n'⟩ := R.bors k p' d' q1 q2
      have hne : p' ≠ p := fun w => by
        subst w
        obtain ⟨u', hu'⟩ := R.lent p' (List.mem_of_getElem? q1)
        rw [z] at hu'; cases hu'
      exact ⟨o'.mono (Evl.Ex.refl _) fun _ q => by rw [upd_ne hne]; exact q, n'⟩
    · rcases get j x e with ⟨rfl, rfl⟩ | ⟨hj, e⟩
      · exact ⟨_, e1, p, rfl, ho, n, z⟩
      · obtain ⟨v, e2, sl⟩ := R.slots j x e
        refine ⟨v, e2, ?_⟩
        cases x with
        | shr d => exact sl
        | bor k => exact sl
        | own d' =>
          obtain ⟨p', rfl, o', n', z'⟩ := sl
          have hne : p' ≠ p := fun w => by
            subst w
            exact hj (R.inj j i _ _ e he rfl rfl (by rw [e2, e1]))
          exact ⟨p', rfl, o'.mono (Evl.Ex.refl _) fun _ q => by rw [upd_ne hne]; exact q, n', z'⟩
    · have g2 : ∀ (j : Nat) (x : SV), (s.put i (.own d)).env[j]? = some (some x) → x.mutb = true → ∃ y, s.env[j]? = some (some y) ∧ y.mutb = true := fun j x e m => by
        rcases get j x e with ⟨rfl, rfl⟩ | ⟨_, e⟩
        · exact ⟨_, he, rfl⟩
        · exact ⟨_, e, m⟩
      obtain ⟨x', a1, a2⟩ := g2 j x q1 m1
      obtain ⟨y', b1, b2⟩ := g2 l y q2 m2
      exact R.inj j l x' y' a1 b1 a2 b2 q3
  · rename_i k e
    cases h
    have he := slot_env e
    obtain ⟨v, e1, p, hp, rfl⟩ := R.slots i _ he
    have hk : k < s.bs.length := by rw [R.blen]; exact (List.getElem?_eq_some_iff.mp hp).1
    obtain ⟨o1, n⟩ := R.bors k p s.bs[k] hp (List.getElem?_eq_getElem hk)
    refine ⟨p, e1, n, fun o ho => ⟨R.len, R.bh, R.nd, R.lent, fun a u m e => ?_, R.bg, Ex.upd_free R.gh n, R.fresh, by simp [R.blen], fun k' p' d' q1 q2 => ?_, fun j x e => ?_, R.inj⟩⟩
    · have hne : a ≠ p := fun w => by subst w; exact m (List.mem_of_getElem? hp)
      rw [upd_ne hne]
      exact R.keep a u m e
    · by_cases hk' : k = k'
      · subst hk'
        rw [hp] at q1
        cases q1
        have q2 : (s.bs.set k d)[k]? = some d' := q2
        rw [List.getElem?_set_self hk] at q2
        cases q2
        exact ⟨ho, n⟩
      · have q2 : (s.bs.set k d)[k']? = some d' := q2
        rw [List.getElem?_set_ne hk'] at q2
        obtain ⟨o', n'⟩ := R.bors k' p' d' q1 q2
        have hne : p' ≠ p := fun w => by
          subst w
          exact hk' ((List.getElem?_inj (List.getElem?_eq_some_iff.mp hp).1 R.nd).mp (hp.trans q1.symm))
        exact ⟨o'.mono (Evl.Ex.refl _) fun _ q => by rw [upd_ne hne]; exact q, n'⟩
    · obtain ⟨v, e2, sl⟩ := R.slots j x e
      refine ⟨v, e2, ?_⟩
      cases x with
      | shr d => exact sl
      | bor k => exact sl
      | own d' =>
        obtain ⟨p', rfl, o', n', z'⟩ := sl
        have hne : p' ≠ p := fun w => by
          subst w
          obtain ⟨u', hu'⟩ := R.lent p' (List.mem_of_getElem? hp)
          rw [z'] at hu'; cases hu'
        exact ⟨p', rfl, o'.mono (Evl.Ex.refl _) fun _ q => by rw [upd_ne hne]; exact q, n', z'⟩
  · cases h
/-! ### what expressions, tests, statements mean -/
inductive ExcOk (F : Fr) (G H : Hp) (c : Nat) (p : List (Str × D)) : Value → Option Addr → Prop
  | non {C : Addr} : F.CA c = some C → p = [] → ExcOk F G H c p (.ref C) none
  | dict {C dx : Addr} {fs : List (Str × V)} : F.CA c = some C → G dx = some (.xd fs) → fs.map (·.1) = p.map (·.1) → Reps F.K F.CA G (fs.map (·.2)) (p.map (·.2)) → p ≠ [] → ExcOk F G H c p (.ref C) (some dx)
end
/-- the wish of exceptions -/
def exW (F : Fr) (G : Hp) (σ : L2.St) (W : WX) (c : Nat) (p : List (Str × D)) (s : S) : Prop :=
  ∀ G' H' cls d, Ex G G' → RS F G' H' σ s → ExcOk F G' H' c p cls d → W cls d σ H'
def PostE (F : Fr) (G : Hp) (σ : L2.St) (W : WX) (Q : VK) : Out SV → Prop
  | .ok x s => ∀ v G' H', Ex G G' → RS F G' H' σ s → Res F G' H' σ s v x → Q v H'
  | .ex c p s => exW F G σ W c p s
  | .bad => False
def PostP (F : Fr) (G : Hp) (σ : L2.St) (W : WX) (Q : VK) : Out PV → Prop
  | .ok x s => ∀ v G' H', Ex G G' → RS F G' H' σ s → PVOk F G' σ v x → Q v H'
  | .ex c p s => exW F G σ W c p s
  | .bad => False
def PostPs (F : Fr) (G : Hp) (σ : L2.St) (W : WX) (Q : List V → Hp → Prop) : Out (List PV) → Prop
  | .ok x s => ∀ vs G' H', Ex G G' → RS F G' H' σ s → PVs F G' σ vs x → Q vs H'
  | .ex c p s => exW F G σ W c p s
  | .bad => False
def PostMs (F : Fr) (G : Hp) (σ : L2.St) (W : WX) (Q : List V → Hp → Prop) : Out (List D) → Prop
  | .ok x s => ∀ vs G' H', Ex G G' → RS F G' H' σ s → Reps F.K F.CA G' vs x → Q vs H'
  | .ex c p s => exW F G σ W c p s
  | .bad => False
def PostT (F : Fr) (G : Hp) (σ : L2.St) (W : WX) (Q : Bool → Hp → Prop) : Out Bool → Prop
  | .ok x s => ∀ G' H', Ex G G' → RS F G' H' σ s → Q x H'
  | .ex c p s => exW F G σ W c p s
  | .bad => False
section
variable (K : PySem.W.Frag) (CA : Nat → Option Addr) (W : WX)
def denE (m : S → Out SV) : TE := fun σ H Q => ∃ F G s, F.K = K ∧ F.CA = CA ∧ RS F G H σ s ∧ PostE F G σ W Q (m s)
def denP (m : S → Out PV) : TE := fun σ H Q => ∃ F G s, F.K = K ∧ F.CA = CA ∧ RS F G H σ s ∧ PostP F G σ W Q (m s)
def denPs (m : S → Out (List PV)) : TA := fun σ H Q => ∃ F G s, F.K = K ∧ F.CA = CA ∧ RS F G H σ s ∧ PostPs F G σ W Q (m s)
def denMs (m : S → Out (List D)) : TA := fun σ H Q => ∃ F G s, F.K = K ∧ F.CA = CA ∧ RS F G H σ s ∧ PostMs F G σ W Q (m s)
def denT (m : S → Out Bool) : TT := fun σ H Q => ∃ F G s, F.K = K ∧ F.CA = CA ∧ RS F G H σ s ∧ PostT F G σ W Q (m s)
/-- a statement's end -/
def PostS (F : Fr) (G0 : Hp) (D : Ends) : O → Prop
  | .nx s => ∀ σ G H, Ex G0 G → RS F G H σ s → D.nx σ H
  | .rt x s => ∀ v σ G H, Ex G0 G → RS F G H σ s → Res F G H σ s v x → D.rt v H
  | .bk s => ∀ σ G H, Ex G0 G → RS F G H σ s → D.bk σ H
  | .ct s => ∀ σ G H, Ex G0 G → RS F G H σ s → D.ct σ H
  | .ex c p s => ∀ σ G H cls d, Ex G0 G → RS F G H σ s → ExcOk F G H c p cls d → W cls d σ H
  | .bad => False
def denS (m : S → O) : TS := fun D σ H => ∃ F G s, F.K = K ∧ F.CA = CA ∧ RS F G H σ s ∧ PostS W F G D (m s)
end
theorem _root_.L2.PE.imp {X : Cx} {e : Expr} {t t' : TE} (h : PE X e t) (i : ∀ σ H Q, t' σ H Q → t σ H Q) : PE X e t' := ⟨fun pins s σ H Q I q => h.run pins s σ H Q I (i σ H Q q)⟩
theorem _root_.L2.PT.imp {X : Cx} {e : Expr} {t t' : TT} (h : PT X e t) (i : ∀ σ H Q, t' σ H Q → t σ H Q) : PT X e t' := ⟨fun pins s σ H Q I q => h.run pins s σ H Q I (i σ H Q q)⟩
theorem _root_.L2.PW.imp {X : Cx} {e : Expr} {t t' : TT} (h : PW X e t) (i : ∀ σ H Q, t' σ H Q → t σ H Q) : PW X e t' := ⟨fun w pins s σ H Q I q => h.run w pins s σ H Q I (i σ H Q q)⟩
theorem _root_.L2.PA.imp {X : Cx} {es : List Expr} {t t' : TA} (h : PA X es t) (i : ∀ σ H Q, t' σ H Q → t σ H Q) : PA X es t' := ⟨fun p pins s σ H Q I q => h.run p pins s σ H Q I (i σ H Q q)⟩
theorem _root_.L2.PS.imp {X : Cx} {e : Stmt} {t t' : TS} (h : PS X e t) (i : ∀ D σ H, t' D σ H → t D σ H) : PS X e t' := ⟨fun pins s σ H D I q => h.run pins s σ H D I (i D σ H q)⟩
theorem _root_.L2.PSs.imp {X : Cx} {e : List Stmt} {t t' : TS} (h : PSs X e t) (i : ∀ D σ H, t' D σ H → t D σ H) : PSs X e t' := ⟨fun pins s σ H D I q => h.run pins s σ H D I (i D σ H q)⟩
/-- chaining -/
theorem PostE.bind {F : Fr} {G : Hp} {σ : L2.St} {W : WX} {Q Q' : VK} {m : Out SV} {α : Type} (f : SV → S → Out α) (P : Out α → Prop) (h : P (m.bind f)) (hx : ∀ c p s, P (.ex c p s) → exW F G σ W c p s) (hb : ¬ P .bad)
    (k : ∀ x s, P (f x s) → ∀ v G' H', Ex G G' → RS F G' H' σ s → Res F G' H' σ s v x → Q v H') : PostE F G σ W Q m := by
  cases m with
  | ok x s => exact k x s h
  | ex c p s => exact hx c p s h
  | bad => exact absurd h hb
theorem PostP.bind {F : Fr} {G : Hp} {σ : L2.St} {W : WX} {Q : VK} {m : Out PV} {α : Type} (f : PV → S → Out α) (P : Out α → Prop) (h : P (m.bind f)) (hx : ∀ c p s, P (.ex c p s) → exW F G σ W c p s) (hb : ¬ P .bad)
    (k : ∀ x s, P (f x s) → ∀ v G' H', Ex G G' → RS F G' H' σ s → PVOk F G' σ v x → Q v H') : PostP F G σ W Q m := by
  cases m with
  | ok x s => exact k x s h
  | ex c p s => exact hx c p s h
  | bad => exact absurd h hb
theorem PostPs.bind {F : Fr} {G : Hp} {σ : L2.St} {W : WX} {Q : List V → Hp → Prop} {m : Out (List PV)} {α : Type} (f : List PV → S → Out α) (P : Out α → Prop) (h : P (m.bind f)) (hx : ∀ c p s, P (.ex c p s) → exW F G σ W c p s) (hb : ¬ P .bad)
    (k : ∀ x s, P (f x s) → ∀ v G' H', Ex G G' → RS F G' H' σ s → PVs F G' σ v x → Q v H') : PostPs F G σ W Q m := by
  cases m with
  | ok x s => exact k x s h
  | ex c p s => exact hx c p s h
  | bad => exact absurd h hb
theorem PostMs.bind {F : Fr} {G : Hp} {σ : L2.St} {W : WX} {Q : List V → Hp → Prop} {m : Out (List D)} {α : Type} (f : List D → S → Out α) (P : Out α → Prop) (h : P (m.bind f)) (hx : ∀ c p s, P (.ex c p s) → exW F G σ W c p s) (hb : ¬ P .bad)
    (k : ∀ x s, P (f x s) → ∀ v G' H', Ex G G' → RS F G' H' σ s → Reps F.K F.CA G' v x → Q v H') : PostMs F G σ W Q m := by
  cases m with
  | ok x s => exact k x s h
  | ex c p s => exact hx c p s h
  | bad => exact absurd h hb
theorem PostT.bind {F : Fr} {G : Hp} {σ : L2.St} {W : WX} {Q : Bool → Hp → Prop} {m : Out Bool} {α : Type} (f : Bool → S → Out α) (P : Out α → Prop) (h : P (m.bind f)) (hx : ∀ c p s, P (.ex c p s) → exW F G σ W c p s) (hb : ¬ P .bad)
    (k : ∀ x s, P (f x s) → ∀ G' H', Ex G G' → RS F G' H' σ s → Q x H') : PostT F G σ W Q m := by
  cases m with
  | ok x s => exact k x s h
  | ex c p s => exact hx c p s h
  | bad => exact absurd h hb
theorem exW.mono {F : Fr} {G G' : Hp} {σ : L2.St} {W : WX} {c : Nat} {p : List (Str × D)} {s : S} (e : Ex G G') (h : exW F G σ W c p s) : exW F G' σ W c p s := fun G2 H2 cls d x R k => h G2 H2 cls d (e.trans x) R k
theorem PostE.mono {F : Fr} {G G' : Hp} {σ : L2.St} {W : WX} {Q : VK} {m : Out SV} (e : Ex G G') (h : PostE F G σ W Q m) : PostE F G' σ W Q m := by
  cases m with
  | ok x s => exact fun v G2 H2 a => h v G2 H2 (e.trans a)
  | ex c p s => exact exW.mono e h
  | bad => exact h
theorem PostP.mono {F : Fr} {G G' : Hp} {σ : L2.St} {W : WX} {Q : VK} {m : Out PV} (e : Ex G G') (h : PostP F G σ W Q m) : PostP F G' σ W Q m := by
  cases m with
  | ok x s => exact fun v G2 H2 a => h v G2 H2 (e.trans a)
  | ex c p s => exact exW.mono e h
  | bad => exact h
theorem PostPs.mono {F : Fr} {G G' : Hp} {σ : L2.St} {W : WX} {Q : List V → Hp → Prop} {m : Out (List PV)} (e : Ex G G') (h : PostPs F G σ W Q m) : PostPs F G' σ W Q m := by
  cases m with
  | ok x s => exact fun v G2 H2 a => h v G2 H2 (e.trans a)
  | ex c p s => exact exW.mono e h
  | bad => exact h
theorem PostMs.mono {F : Fr} {G G' : Hp} {σ : L2.St} {W : WX} {Q : List V → Hp → Prop} {m : Out (List D)} (e : Ex G G') (h : PostMs F G σ W Q m) : PostMs F G' σ W Q m := by
  cases m with
  | ok x s => exact fun v G2 H2 a => h v G2 H2 (e.trans a)
  | ex c p s => exact exW.mono e h
  | bad => exact h
theorem PostT.mono {F : Fr} {G G' : Hp} {σ : L2.St} {W : WX} {Q : Bool → Hp → Prop} {m : Out Bool} (e : Ex G G') (h : PostT F G σ W Q m) : PostT F G' σ W Q m := by
  cases m with
  | ok x s => exact fun G2 H2 a => h G2 H2 (e.trans a)
  | ex c p s => exact exW.mono e h
  | bad => exact h
end Den
set_option Elab.async false
set_option linter.all false
set_option maxRecDepth 100000
set_option autoImplicit false
set_option maxHeartbeats 4000000
namespace Den
open PySem PySem.Spec PyProof.Rows L2
/-- an operation on values -/
def rOp (K : PySem.W.Frag) (CA : Nat → Option Addr) (o : Op) : List V → Hp → VK → Prop := fun vs H Q => ∃ F G σ s ds x, F.K = K ∧ F.CA = CA ∧ RS F G H σ s ∧ Pks F G H vs ds ∧ opSem o ds = some x ∧
  ∀ v G' H', Grow G H G' H' → Res F G' H' σ s v x → Q v H'
section
variable {F : Fr} {G H G' H' : Hp} {σ : L2.St} {s s' : S} {Q : VK} {v : V} {x : SV}
theorem fin0 (R : RS F G H σ s) {d : D} (q : ∀ v G' H', Grow G H G' H' → Res F G' H' σ s v (.shr d) → Q v H') (h : Rep F.K F.CA G v d) : Q v H := q v G H (Grow.refl R.gh) (Res.shr h)
theorem finL (R : RS F G H σ s) {ds : List D} {vs : List V} (q : ∀ v G' H', Grow G H G' H' → Res F G' H' σ s v (.own (.lst ds)) → Q v H') (h : Reps F.K F.CA G vs ds) : ∀ p, H p = none → Q (.ref p) (upd H p (.lst vs)) := fun p hp =>
  q _ G _ (Grow.newH R.gh hp) (Res.own R hp (.lst upd_same h))
theorem finT (R : RS F G H σ s) {ds : List D} {vs : List V} (q : ∀ v G' H', Grow G H G' H' → Res F G' H' σ s v (.shr (.tup ds)) → Q v H') (h : Reps F.K F.CA G vs ds) : ∀ p, H p = none → Q (.ref p) (upd H p (.tup vs)) := fun p hp =>
  q _ _ _ (Grow.newG R.gh hp) (Res.shr (.tup (Evl.st_of upd_same) (h.mono (Evl.Ex.new (gnone R.gh hp)))))
theorem Pks.one {d : D} : Pks F G H [v] [d] ↔ Pk F G H v d := ⟨fun h => h.1, fun h => ⟨h, trivial⟩⟩
theorem Pks.inv1 {ds : List D} (h : Pks F G H [v] ds) : ∃ d, ds = [d] ∧ Pk F G H v d := by
  match ds, h with
  | [d], ⟨a, _⟩ => exact ⟨d, rfl, a⟩
  | [], h => exact h.elim
  | _ :: _ :: _, ⟨_, h⟩ => exact h.elim
theorem Pks.inv2 {w : V} {ds : List D} (h : Pks F G H [v, w] ds) : ∃ d e, ds = [d, e] ∧ Pk F G H v d ∧ Pk F G H w e := by
  match ds, h with
  | [d, e], ⟨a, b, _⟩ => exact ⟨d, e, rfl, a, b⟩
  | [], h => exact h.elim
  | [_], ⟨_, h⟩ => exact h.elim
  | _ :: _ :: _ :: _, ⟨_, _, h⟩ => exact h.elim
theorem mulG_ok {i j : Int} (h : mulG i j = true) : CMul i j := by
  unfold mulG at h
  have := of_decide_eq_true h
  exact this
theorem divG_ok {j : Int} {i : Int} (h : divG j = true) : CDiv i j := by
  unfold divG at h
  have := of_decide_eq_true h
  exact this
theorem two_of {α : Type} {l : List α} (h : l.length = 2) : ∃ a b, l = [a, b] := by
  match l, h with
  | [a, b], _ => exact ⟨a, b, rfl⟩
theorem sz {n : Nat} (h : n ≤ lim) : n ≤ sizeLine := Nat.le_trans h (by decide)
theorem szl {n : Nat} (h : n < lim) : n < sizeLine := Nat.lt_of_lt_of_le h (by decide)
/-- data as the library has it -/
theorem Rep.dp {K : PySem.W.Frag} {CA : Nat → Option Addr} {H : Hp} {v : V} {d : D} (h : Rep K CA H v d) : PyData.canLay0 d.py = true → Dp K H v d.py := by
  induction h using Rep.rec (motive_2 := fun vs ds _ => PyData.canLayAll0 (D.pys ds) = true → DpAll K H vs (D.pys ds)) with
  | non => intro _; exact .non
  | bl b => intro _; exact .bl b
  | int i => intro _; exact .int i
  | str x => intro _; exact .str x
  | lst h _ r => intro c; exact .lst (SqL.of h) (r (by simpa [D.py, PyData.canLay0] using c))
  | tup h _ r => intro c; exact .tup h (r (by simpa [D.py, PyData.canLay0] using c))
  | dic h _ r => intro c; simp [D.py, PyData.canLay0] at c
  | frl h _ r => intro c; simp [D.py, PyData.canLay0] at c
  | obj c h _ r => intro c; simp [D.py, PyData.canLay0] at c
  | nil => exact .nil
  | cons _ _ r1 r2 =>
    rename_i c
    unfold D.pys at c ⊢
    simp only [PyData.canLayAll0, Bool.and_eq_true] at c
    exact .cons (r1 c.1) (r2 c.2)
theorem Pk.dp {d : D} (R : RS F G H σ s) (h : Pk F G H v d) (c : d.okq = true) : Dp F.K H v d.py := (h.rep R.gh).dp (SeqAt.canLay_of_shaped c)
theorem cutG_V (xs : List V) (lo hi : Option Int) : cutG xs lo hi = cutV xs lo hi := rfl
theorem Reps.cut {K : PySem.W.Frag} {CA : Nat → Option Addr} {vs : List V} {ds : List D} (h : Reps K CA H vs ds) (lo hi : Option Int) : Reps K CA H (cutV vs lo hi) (cutG ds lo hi) := by
  unfold cutV cutG
  rw [h.length]
  exact (h.drop _).take _
theorem Reps.atI {K : PySem.W.Frag} {CA : Nat → Option Addr} {vs : List V} {ds : List D} {i : Int} {d : D} (h : Reps K CA H vs ds) (e : ixI ds i = some d) : ∃ v, atI vs i = some v ∧ Rep K CA H v d := by
  unfold ixI L2.atI at e
  unfold L2.atI
  rw [h.length]
  cases q : ixN ds.length i with
  | none => rw [q] at e; cases e
  | some j =>
    rw [q] at e
    exact h.get e
theorem Reps.ints {K : PySem.W.Frag} {CA : Nat → Option Addr} : ∀ {vs : List V} {ds : List D} {is : List Int}, Reps K CA H vs ds → D.ints ds = some is → vs = is.map V.int
  | _, _, _, .nil, e => by cases e; rfl
  | _, _, is, .cons (d := d) (ds := ds) r t, e => by
    cases r with
    | int i =>
      unfold D.ints at e
      cases q : D.ints ds with
      | none => rw [q] at e; cases e
      | some js =>
        rw [q] at e
        cases e
        rw [Reps.ints t q]
        rfl
    | _ => cases e
theorem Reps.ofInts {K : PySem.W.Frag} {CA : Nat → Option Addr} : ∀ is : List Int, Reps K CA H (is.map V.int) (is.map D.int)
  | [] => .nil
  | i :: is => .cons (.int i) (Reps.ofInts is)
theorem Reps.bls {K : PySem.W.Frag} {CA : Nat → Option Addr} : ∀ {vs : List V} {ds : List D} {is : List Bool}, Reps K CA H vs ds → D.bls ds = some is → vs = is.map V.bl
  | _, _, _, .nil, e => by cases e; rfl
  | _, _, is, .cons (d := d) (ds := ds) r t, e => by
    cases r with
    | bl i =>
      unfold D.bls at e
      cases q : D.bls ds with
      | none => rw [q] at e; cases e
      | some js =>
        rw [q] at e
        cases e
        rw [Reps.bls t q]
        rfl
    | _ => cases e
/-- flat data and flat values -/
theorem eqv_flat {d e : D} {x y : V} (hd : d.v = some x) (he : e.v = some y) : D.eqv d e = eqV x y := by
  cases d <;> cases hd <;> cases e <;> cases he <;> rfl
theorem Reps.flats {K : PySem.W.Frag} {CA : Nat → Option Addr} {G : Hp} : ∀ {vs : List V} {ds : List D}, Reps K CA G vs ds → ds.all D.flat = true → vs.all flatV = true
  | _, _, .nil, _ => rfl
  | _, _, .cons r t, f => by
    rw [List.all_cons, Bool.and_eq_true] at f
    rw [List.all_cons, Bool.and_eq_true]
    refine ⟨?_, Reps.flats t f.2⟩
    have := r.flatV f.1
    cases r <;> first | rfl | (exact Bool.noConfusion f.1)
theorem Reps.any_eqV {K : PySem.W.Frag} {CA : Nat → Option Addr} {G : Hp} {d : D} {x : V} (hd : d.v = some x) : ∀ {vs : List V} {ds : List D}, Reps K CA G vs ds → ds.all D.flat = true → (ds.any fun y => D.eqv y d) = inV x vs
  | _, _, .nil, _ => rfl
  | _, _, .cons r t, f => by
    rw [List.all_cons, Bool.and_eq_true] at f
    have e := Reps.any_eqV hd t f.2
    unfold inV at e ⊢
    rw [List.any_cons, List.any_cons, e, eqv_flat (r.flatV f.1) hd]
theorem flat_V {d : D} {x : V} (h : d.v = some x) : L2.flatV x = true := by cases d <;> cases h <;> rfl
theorem v_inj {d e : D} {x : V} (h : d.v = some x) (h' : e.v = some x) : d = e := by
  cases d <;> cases h <;> cases e <;> cases h' <;> rfl
theorem Pks.len {vs : List V} {ds : List D} (h : Pks F G H vs ds) : vs.length = ds.length := by
  induction vs generalizing ds with
  | nil => cases ds with
    | nil => rfl
    | cons _ _ => exact h.elim
  | cons v vs ih => cases ds with
    | nil => exact h.elim
    | cons d ds => simp [ih h.2]
end
section
variable {X : Cx} {CA : Nat → Option Addr}
theorem o_add : OpR X (binaryOp .Add) (fun x y => rOp X.K CA .add [x, y]) := by
  intro pins s σ H x y v u Q I rx ry ⟨F, G, σ', s', ds, r, hK, hC, R, hp, e, q⟩
  subst hC
  obtain ⟨d, d', rfl, p1, p2⟩ := hp.inv2
  replace e : addS d d' = some r := e
  unfold addS at e
  split at e
  · cases e
    exact op_add pins s σ H x y v u Q I rx ry ⟨_, _, p1.int, p2.int, fin0 R q (.int _)⟩
  · split at e <;> cases e
    rename_i hz
    exact op_add_str pins s σ H x y v u Q I rx ry ⟨_, _, p1.str, p2.str, sz hz, fin0 R q (.str _)⟩
  · split at e <;> cases e
    rename_i hz
    obtain ⟨a, vs, rfl, h1, r1⟩ := p1.lst R.gh
    obtain ⟨b, ws, rfl, h2, r2⟩ := p2.lst R.gh
    exact op_cat pins s σ H _ _ v u Q I rx ry ⟨a, b, vs, ws, rfl, rfl, h1, h2, by rw [r1.length, r2.length]; exact sz hz, finL R q (r1.append r2)⟩
  · split at e <;> cases e
    rename_i hz
    obtain ⟨a, vs, rfl, h1, r1⟩ := p1.tup R.gh
    obtain ⟨b, ws, rfl, h2, r2⟩ := p2.tup R.gh
    rw [hK] at h1 h2
    refine op_catA pins s σ H _ _ v u Q I rx ry ⟨a, b, vs, ws, rfl, rfl, h1, h2, by rw [r1.length, r2.length]; exact sz hz, fun e => ?_, fun _ e => ?_, fun _ _ => finT R q (r1.append r2)⟩
    · subst e
      cases r1
      exact fin0 R q (by simpa using p2.tupG)
    · subst e
      cases r2
      exact fin0 R q (by simpa using p1.tupG)
  · cases e
theorem o_sub : OpR X (binaryOp .Sub) (fun x y => rOp X.K CA .sub [x, y]) := by
  intro pins s σ H x y v u Q I rx ry ⟨F, G, σ', s', ds, r, hK, hC, R, hp, e, q⟩
  obtain ⟨d, d', rfl, p1, p2⟩ := hp.inv2
  cases d <;> first | (cases e; done) | skip
  cases d' <;> first | (cases e; done) | skip
  cases e
  exact op_sub pins s σ H x y v u Q I rx ry ⟨_, _, p1.int, p2.int, fin0 R q (.int _)⟩
theorem o_mul : OpR X (binaryOp .Mult) (fun x y => rOp X.K CA .mul [x, y]) := by
  intro pins s σ H x y v u Q I rx ry ⟨F, G, σ', s', ds, r, hK, hC, R, hp, e, q⟩
  obtain ⟨d, d', rfl, p1, p2⟩ := hp.inv2
  replace e : mulS d d' = some r := e
  unfold mulS at e
  split at e
  · split at e <;> cases e
    rename_i hg
    exact op_mul pins s σ H x y v u Q I rx ry ⟨_, _, p1.int, p2.int, (mulG_ok hg), fin0 R q (.int _)⟩
  · split at e <;> cases e
    rename_i hg
    exact My.op_mul_str pins s σ H x y v u Q I rx ry ⟨_, _, p1.str, p2.int, hg.1, hg.2.1, hg.2.2, fin0 R q (.str _)⟩
  · cases e
theorem o_fdiv : OpR X (binaryOp .FloorDiv) (fun x y => rOp X.K CA .fdiv [x, y]) := by
  intro pins s σ H x y v u Q I rx ry ⟨F, G, σ', s', ds, r, hK, hC, R, hp, e, q⟩
  obtain ⟨d, d', rfl, p1, p2⟩ := hp.inv2
  cases d <;> first | (cases e; done) | skip
  cases d' <;> first | (cases e; done) | skip
  rename_i i j
  replace e : (if divG j = true then some (SV.shr (.int (i / j))) else none) = some r := e
  split at e <;> cases e
  rename_i hg
  exact op_fdiv pins s σ H x y v u Q I rx ry ⟨_, _, p1.int, p2.int, (divG_ok hg), fin0 R q (.int _)⟩
theorem o_mod : OpR X (binaryOp .Mod) (fun x y => rOp X.K CA .mod [x, y]) := by
  intro pins s σ H x y v u Q I rx ry ⟨F, G, σ', s', ds, r, hK, hC, R, hp, e, q⟩
  obtain ⟨d, d', rfl, p1, p2⟩ := hp.inv2
  cases d <;> first | (cases e; done) | skip
  cases d' <;> first | (cases e; done) | skip
  rename_i i j
  replace e : (if 0 < j then some (SV.shr (.int (i % j))) else none) = some r := e
  split at e <;> cases e
  rename_i hg
  exact op_mod pins s σ H x y v u Q I rx ry ⟨_, _, p1.int, p2.int, hg, fin0 R q (.int _)⟩
theorem o_pow : OpR X (binaryOp .Pow) (fun x y => rOp X.K CA .pow [x, y]) := by
  intro pins s σ H x y v u Q I rx ry ⟨F, G, σ', s', ds, r, hK, hC, R, hp, e, q⟩
  obtain ⟨d, d', rfl, p1, p2⟩ := hp.inv2
  cases d <;> first | (cases e; done) | skip
  cases d' <;> first | (cases e; done) | skip
  rename_i i j
  replace e : (if 0 ≤ j ∧ j ≤ 1000 ∧ i.natAbs < 2 ^ 64 then some (SV.shr (.int (i ^ j.toNat))) else none) = some r := e
  split at e <;> cases e
  rename_i hg
  exact op_pow pins s σ H x y v u Q I rx ry ⟨_, _, p1.int, p2.int, ⟨hg.1, by have := hg.2.1; omega, hg.2.2⟩, fin0 R q (.int _)⟩
theorem o_band : OpR X (binaryOp .BitAnd) (fun x y => rOp X.K CA .band [x, y]) := by
  intro pins s σ H x y v u Q I rx ry ⟨F, G, σ', s', ds, r, hK, hC, R, hp, e, q⟩
  obtain ⟨d, d', rfl, p1, p2⟩ := hp.inv2
  cases d <;> first | (cases e; done) | skip
  cases d' <;> first | (cases e; done) | skip
  cases e
  exact op_and pins s σ H x y v u Q I rx ry ⟨_, _, p1.int, p2.int, fin0 R q (.int _)⟩
theorem o_shr : OpR X (binaryOp .RShift) (fun x y => rOp X.K CA .shr [x, y]) := by
  intro pins s σ H x y v u Q I rx ry ⟨F, G, σ', s', ds, r, hK, hC, R, hp, e, q⟩
  obtain ⟨d, d', rfl, p1, p2⟩ := hp.inv2
  cases d <;> first | (cases e; done) | skip
  cases d' <;> first | (cases e; done) | skip
  rename_i i j
  replace e : (if 0 ≤ j then some (SV.shr (.int (i / 2 ^ j.toNat))) else none) = some r := e
  split at e <;> cases e
  rename_i hg
  exact op_shr pins s σ H x y v u Q I rx ry ⟨_, _, p1.int, p2.int, hg, fin0 R q (.int _)⟩
theorem o_neg : UnR X (unaryOp .USub) (fun x => rOp X.K CA .neg [x]) := by
  intro pins s σ H x v Q I rx ⟨F, G, σ', s', ds, r, hK, hC, R, hp, e, q⟩
  obtain ⟨d, rfl, p1⟩ := hp.inv1
  cases d <;> first | (cases e; done) | skip
  cases e
  exact un_neg pins s σ H x v Q I rx ⟨_, p1.int, fin0 R q (.int _)⟩
theorem rep_bl {F : Fr} {G : Hp} (b : Bool) : Rep F.K F.CA G (.bl b) (.bl b) := .bl b
theorem scal_V {d e : D} {x y : V} (hs : D.scal d e = true) (hd : Rep (default : PySem.W.Frag) (fun _ => none) (fun _ => none) x d → True) : True := trivial
theorem Pk.scal {F : Fr} {G H : Hp} {v w : V} {d e : D} (h1 : Pk F G H v d) (h2 : Pk F G H w e) (hs : D.scal d e = true) : L2.scal v w = true ∧ decide (v = w) = decide (d = e) := by
  unfold D.scal at hs
  split at hs
  · rename_i x y hx hy
    have f1 : d.flat = true := by cases d <;> first | rfl | cases hx
    have f2 : e.flat = true := by cases e <;> first | rfl | cases hy
    have a1 := h1.flat f1
    have a2 := h2.flat f2
    rw [hx] at a1
    rw [hy] at a2
    cases a1
    cases a2
    refine ⟨hs, decide_eq_decide.mpr ⟨fun z => ?_, fun z => ?_⟩⟩
    · subst z; exact v_inj hx hy
    · subst z; rw [hx] at hy; exact Option.some.inj hy
  · cases hs
theorem o_eq (hu : X.A.units + 64 < cLine) : OpR X (compareOp .Eq) (fun x y => rOp X.K CA .eq [x, y]) := by
  intro pins s σ H x y v u Q I rx ry ⟨F, G, σ', s', ds, r, hK, hC, R, hp, e, q⟩
  obtain ⟨d, d', rfl, p1, p2⟩ := hp.inv2
  replace e : blO (D.eqq d d') = some r := e
  unfold D.eqq at e
  split at e
  · rename_i hs
    cases e
    obtain ⟨a, b⟩ := p1.scal p2 hs
    exact op_eq pins s σ H x y v u Q I rx ry ⟨a, by rw [b]; exact fin0 R q (.bl _)⟩
  · split at e <;> cases e
    rename_i hk
    rw [Bool.and_eq_true] at hk
    have a := p1.dp R hk.1
    have b := p2.dp R hk.2
    rw [hK] at a b
    exact op_eqD hu pins s σ H x y v u Q I rx ry ⟨_, _, a, b, hk.1, hk.2, fin0 R q (.bl _)⟩
theorem o_ne (hu : X.A.units + 64 < cLine) : OpR X (compareOp .NotEq) (fun x y => rOp X.K CA .ne [x, y]) := by
  intro pins s σ H x y v u Q I rx ry ⟨F, G, σ', s', ds, r, hK, hC, R, hp, e, q⟩
  obtain ⟨d, d', rfl, p1, p2⟩ := hp.inv2
  replace e : nblO (D.eqq d d') = some r := e
  unfold D.eqq at e
  split at e
  · rename_i hs
    cases e
    obtain ⟨a, b⟩ := p1.scal p2 hs
    exact op_ne pins s σ H x y v u Q I rx ry ⟨a, by rw [b]; exact fin0 R q (.bl _)⟩
  · split at e <;> cases e
    rename_i hk
    rw [Bool.and_eq_true] at hk
    have a := p1.dp R hk.1
    have b := p2.dp R hk.2
    rw [hK] at a b
    exact op_neD hu pins s σ H x y v u Q I rx ry ⟨_, _, a, b, hk.1, hk.2, fin0 R q (.bl _)⟩
theorem cmpq_ok {d e : D} (h : D.cmpq d e = true) : d.okq = true ∧ e.okq = true ∧ PySem.W.alike d.py e.py = true ∧ d.py ≠ .none := by
  unfold D.cmpq at h
  rw [Bool.and_eq_true, Bool.and_eq_true, Bool.and_eq_true] at h
  refine ⟨h.1.1.1, h.1.1.2, h.1.2, ?_⟩
  have h2 := h.2
  cases d <;> first | (intro z; cases z; done) | (exact Bool.noConfusion h2)
theorem cmp_room {d : D} {e : PyData} {u : Nat} (h : d.okq = true) (hu : u + 64 < cLine) : u + min d.py.depth e.depth < cLine := by
  unfold D.okq SeqAt.shaped at h
  rw [Bool.and_eq_true, decide_eq_true_eq] at h
  have := h.2
  omega
theorem o_lt (hu : X.A.units + 64 < cLine) : OpR X (compareOp .Lt) (fun x y => rOp X.K CA .lt [x, y]) := by
  intro pins s σ H x y v u Q I rx ry ⟨F, G, σ', s', ds, r, hK, hC, R, hp, e, q⟩
  obtain ⟨d, d', rfl, p1, p2⟩ := hp.inv2
  replace e : blO (ltS d d') = some r := e
  unfold ltS at e
  split at e
  · cases e
    exact op_lt pins s σ H x y v u Q I rx ry ⟨_, _, p1.int, p2.int, fin0 R q (.bl _)⟩
  · cases e
    exact op_lt_str pins s σ H x y v u Q I rx ry ⟨_, _, p1.str, p2.str, fin0 R q (.bl _)⟩
  · split at e
    · rename_i hq
      cases e
      obtain ⟨a1, a2, a3, a4⟩ := cmpq_ok hq
      have b1 := p1.dp R a1
      have b2 := p2.dp R a2
      rw [hK] at b1 b2
      obtain ⟨as, r1⟩ := Dp.reads I _ x v b1 rx
      obtain ⟨bs, r2⟩ := Dp.reads I _ y u b2 ry
      exact PySem.W.lt_data r1 r2 a3 a4 (cmp_room a1 hu) ⟨.bl _, H, I, rfl, fin0 R q (.bl _)⟩
    · cases e
theorem o_gt (hu : X.A.units + 64 < cLine) : OpR X (compareOp .Gt) (fun x y => rOp X.K CA .gt [x, y]) := by
  intro pins s σ H x y v u Q I rx ry ⟨F, G, σ', s', ds, r, hK, hC, R, hp, e, q⟩
  obtain ⟨d, d', rfl, p1, p2⟩ := hp.inv2
  replace e : blO (ltS d' d) = some r := e
  unfold ltS at e
  split at e
  · cases e
    exact op_gt pins s σ H x y v u Q I rx ry ⟨_, _, p1.int, p2.int, fin0 R q (.bl _)⟩
  · cases e
    exact op_gt_str pins s σ H x y v u Q I rx ry ⟨_, _, p1.str, p2.str, fin0 R q (.bl _)⟩
  · split at e
    · rename_i hq
      cases e
      obtain ⟨a1, a2, a3, a4⟩ := cmpq_ok hq
      have b1 := p1.dp R a2
      have b2 := p2.dp R a1
      rw [hK] at b1 b2
      obtain ⟨as, r1⟩ := Dp.reads I _ x v b1 rx
      obtain ⟨bs, r2⟩ := Dp.reads I _ y u b2 ry
      have a3' : PySem.W.alike d.py d'.py = true := by rw [PySem.W.alike_comm]; exact a3
      exact PySem.W.gt_data r1 r2 a3' (PySem.W.ne_none_both a3 a4) (cmp_room a2 hu) ⟨.bl _, H, I, rfl, fin0 R q (.bl _)⟩
    · cases e
theorem o_le (hu : X.A.units + 64 < cLine) : OpR X (compareOp .LtE) (fun x y => rOp X.K CA .le [x, y]) := by
  intro pins s σ H x y v u Q I rx ry ⟨F, G, σ', s', ds, r, hK, hC, R, hp, e, q⟩
  obtain ⟨d, d', rfl, p1, p2⟩ := hp.inv2
  replace e : blO (leS d d') = some r := e
  unfold leS at e
  split at e
  · cases e
    exact op_le pins s σ H x y v u Q I rx ry ⟨_, _, p1.int, p2.int, fin0 R q (.bl _)⟩
  · cases e
    exact op_le_str pins s σ H x y v u Q I rx ry ⟨_, _, p1.str, p2.str, fin0 R q (.bl _)⟩
  · split at e
    · rename_i hq
      cases e
      obtain ⟨a1, a2, a3, a4⟩ := cmpq_ok hq
      have b1 := p1.dp R a1
      have b2 := p2.dp R a2
      rw [hK] at b1 b2
      obtain ⟨as, r1⟩ := Dp.reads I _ x v b1 rx
      obtain ⟨bs, r2⟩ := Dp.reads I _ y u b2 ry
      exact PySem.W.le_data r1 r2 a3 a4 (cmp_room a1 hu) ⟨.bl _, H, I, rfl, fin0 R q (.bl _)⟩
    · cases e
theorem o_ge (hu : X.A.units + 64 < cLine) : OpR X (compareOp .GtE) (fun x y => rOp X.K CA .ge [x, y]) := by
  intro pins s σ H x y v u Q I rx ry ⟨F, G, σ', s', ds, r, hK, hC, R, hp, e, q⟩
  obtain ⟨d, d', rfl, p1, p2⟩ := hp.inv2
  replace e : blO (leS d' d) = some r := e
  unfold leS at e
  split at e
  · cases e
    exact op_ge pins s σ H x y v u Q I rx ry ⟨_, _, p1.int, p2.int, fin0 R q (.bl _)⟩
  · cases e
    exact op_ge_str pins s σ H x y v u Q I rx ry ⟨_, _, p1.str, p2.str, fin0 R q (.bl _)⟩
  · split at e
    · rename_i hq
      cases e
      obtain ⟨a1, a2, a3, a4⟩ := cmpq_ok hq
      have b1 := p1.dp R a2
      have b2 := p2.dp R a1
      rw [hK] at b1 b2
      obtain ⟨as, r1⟩ := Dp.reads I _ x v b1 rx
      obtain ⟨bs, r2⟩ := Dp.reads I _ y u b2 ry
      have a3' : PySem.W.alike d.py d'.py = true := by rw [PySem.W.alike_comm]; exact a3
      exact PySem.W.ge_data r1 r2 a3' (PySem.W.ne_none_both a3 a4) (cmp_room a2 hu) ⟨.bl _, H, I, rfl, fin0 R q (.bl _)⟩
    · cases e
theorem any_pys {d : PyData} : ∀ {xs : List D}, (D.pys xs).any (fun z => PyData.eqv z d) = xs.any fun y => PyData.eqv y.py d
  | [] => rfl
  | x :: xs => by
    show (PyData.eqv x.py d || (D.pys xs).any fun z => PyData.eqv z d) = (PyData.eqv x.py d || xs.any fun y => PyData.eqv y.py d)
    rw [any_pys]
theorem kD_inj {a b : Key} (h : kD a = kD b) : a = b := by
  cases a <;> cases b <;> first | (cases h; rfl) | cases h
theorem valV_kD (k : Key) : ∀ kvs : List (Key × V), (valV kvs k).isSome = (kvs.map fun p => kD p.1).any fun d => decide (d = kD k)
  | [] => rfl
  | (j, v) :: r => by
    have ih := valV_kD k r
    unfold valV at ih ⊢
    rw [List.find?_cons, List.map_cons, List.any_cons]
    by_cases e : j = k
    · subst e; simp
    · have : ¬ kD j = kD k := fun z => e (kD_inj z)
      simp only [e, this, decide_false, Bool.false_or]
      exact ih
theorem Pk.keyd {F : Fr} {G H : Hp} {x : V} {d : D} (p : Pk F G H x d) (h : d.key = true) : ∃ k, d = kD k ∧ x = kV k := by
  cases d <;> first | (exact Bool.noConfusion h) | skip
  · exact ⟨.inl _, rfl, p.int⟩
  · exact ⟨.inr _, rfl, p.str⟩
theorem lookD_val {K : PySem.W.Frag} {CA : Nat → Option Addr} {G : Hp} {k : Key} {d : D} : ∀ {kvs : List (Key × V)} {ds : List D}, Reps K CA G (kvs.map (·.2)) ds → lookD (kD k) (kvs.map fun p => kD p.1) ds = some d → ∃ v, valV kvs k = some v ∧ Rep K CA G v d
  | [], ds, _, h => by cases ds <;> cases h
  | (j, v) :: r, ds, rs, h => by
    cases rs with
    | cons r1 r2 =>
      rename_i e es
      have h : (if kD j = kD k then some e else lookD (kD k) (r.map fun p => kD p.1) es) = some d := h
      unfold valV
      rw [List.find?_cons]
      by_cases z : j = k
      · subst z
        rw [if_pos rfl] at h
        cases h
        simp only [decide_true]
        exact ⟨v, rfl, r1⟩
      · rw [if_neg fun w => z (kD_inj w)] at h
        simp only [z, decide_false]
        exact lookD_val r2 h
theorem in_aux {F : Fr} {G H : Hp} {σ : L2.St} {s : S} (R : RS F G H σ s) {x y : V} {d e : D} {b : Bool} (p1 : Pk F G H x d) (p2 : Pk F G H y e) (h : inS d e = some b) :
    (∃ i j, x = .str i ∧ y = .str j ∧ b = !(Builtin.Str.occurrences j i 0 j.length 1).isEmpty) ∨ (∃ p xs, y = .ref p ∧ (SqL F.K H p xs ∨ SqT F.K H p xs) ∧ flatV x = true ∧ xs.all flatV = true ∧ b = inV x xs) ∨
    (∃ xs, e = .lst xs ∧ d.okq = true ∧ e.okq = true ∧ b = xs.any fun y => D.eqv y d) ∨ (∃ a o, y = .ref a ∧ DGet H a x o ∧ b = o.isSome) := by
  unfold inS at h
  split at h
  · split at h
    · rename_i hk
      cases h
      obtain ⟨p, kvs, rfl, h1, rfl, r1⟩ := p2.dic R.gh
      obtain ⟨k, rfl, rfl⟩ := p1.keyd hk
      refine .inr (.inr (.inr ⟨p, _, rfl, DGet.k h1, ?_⟩))
      rw [valV_kD]
    · cases h
  · rename_i xs
    unfold D.isinL at h
    split at h
    · rename_i hf
      cases h
      rw [Bool.and_eq_true] at hf
      obtain ⟨p, vs, rfl, h1, r1⟩ := p2.lst R.gh
      have hx := p1.flat hf.1
      exact .inr (.inl ⟨p, vs, rfl, .inl (SqL.of h1), flat_V hx, r1.flats hf.2, r1.any_eqV hx hf.2⟩)
    · split at h
      · rename_i hf
        cases h
        rw [Bool.and_eq_true] at hf
        exact .inr (.inr (.inl ⟨xs, rfl, hf.1, hf.2, rfl⟩))
      · cases h
  · rename_i xs
    unfold D.isin at h
    split at h
    · rename_i hf
      cases h
      rw [Bool.and_eq_true] at hf
      obtain ⟨p, vs, rfl, h1, r1⟩ := p2.tup R.gh
      have hx := p1.flat hf.1
      exact .inr (.inl ⟨p, vs, rfl, .inr h1, flat_V hx, r1.flats hf.2, r1.any_eqV hx hf.2⟩)
    · cases h
  · split at h
    · cases h
      exact .inl ⟨_, _, p1.str, p2.str, rfl⟩
    · cases h
  · cases h
theorem o_isin (hu : X.A.units + 65 < cLine) : OpR X (compareOp .In) (fun x y => rOp X.K CA .isin [x, y]) := by
  intro pins s σ H x y v u Q I rx ry ⟨F, G, σ', s', ds, r, hK, hC, R, hp, e, q⟩
  obtain ⟨d, d', rfl, p1, p2⟩ := hp.inv2
  replace e : blO (inS d d') = some r := e
  cases he : inS d d' with
  | none => rw [he] at e; cases e
  | some b =>
    rw [he] at e
    cases e
    rcases in_aux R p1 p2 he with ⟨i, j, rfl, rfl, rfl⟩ | ⟨p, xs, rfl, h1, h2, h3, rfl⟩ | ⟨xs, rfl, h1, h2, rfl⟩ | ⟨a, o, rfl, hg, rfl⟩
    · exact op_in_str pins s σ H _ _ v u Q I rx ry ⟨_, _, rfl, rfl, fin0 R q (.bl _)⟩
    · rw [hK] at h1
      exact op_in_seq pins s σ H _ _ v u Q I rx ry ⟨p, xs, rfl, h1, h2, h3, fin0 R q (.bl _)⟩
    · have a := p1.dp R h1
      have b := p2.dp R h2
      rw [hK] at a b
      refine op_inD hu pins s σ H _ _ v u Q I rx ry ⟨_, D.pys xs, a, b, h1, h2, ?_⟩
      rw [any_pys]
      exact fin0 R q (.bl _)
    · obtain rfl : u = Value.ref a := ry
      exact d_in (by omega) I hg rx fun s2 I2 => ⟨.bl _, _, I2, rfl, fin0 R q (.bl _)⟩
theorem o_notin (hu : X.A.units + 65 < cLine) : OpR X (compareOp .NotIn) (fun x y => rOp X.K CA .notin [x, y]) := by
  intro pins s σ H x y v u Q I rx ry ⟨F, G, σ', s', ds, r, hK, hC, R, hp, e, q⟩
  obtain ⟨d, d', rfl, p1, p2⟩ := hp.inv2
  replace e : nblO (inS d d') = some r := e
  cases he : inS d d' with
  | none => rw [he] at e; cases e
  | some b =>
    rw [he] at e
    cases e
    rcases in_aux R p1 p2 he with ⟨i, j, rfl, rfl, rfl⟩ | ⟨p, xs, rfl, h1, h2, h3, rfl⟩ | ⟨xs, rfl, h1, h2, rfl⟩ | ⟨a, o, rfl, hg, rfl⟩
    · exact op_notIn_str pins s σ H _ _ v u Q I rx ry ⟨_, _, rfl, rfl, fin0 R q (.bl _)⟩
    · rw [hK] at h1
      exact op_notIn_seq pins s σ H _ _ v u Q I rx ry ⟨p, xs, rfl, h1, h2, h3, fin0 R q (.bl _)⟩
    · have a := p1.dp R h1
      have b := p2.dp R h2
      rw [hK] at a b
      refine op_notInD hu pins s σ H _ _ v u Q I rx ry ⟨_, D.pys xs, a, b, h1, h2, ?_⟩
      rw [any_pys]
      exact fin0 R q (.bl _)
    · obtain rfl : u = Value.ref a := ry
      exact d_notIn (by omega) I hg rx fun s2 I2 => ⟨.bl _, _, I2, rfl, fin0 R q (.bl _)⟩
theorem Pk.isN {F : Fr} {G H : Hp} {v : V} {d : D} (h : Pk F G H v d) : decide (v = .non) = decide (d = .non) := by
  refine decide_eq_decide.mpr ⟨fun e => ?_, fun e => ?_⟩
  · subst e
    cases h with
    | g h => cases h; rfl
    | o hv _ _ => cases hv
  · subst e; exact h.non
theorem o_isN : OpR X (compareOp .Is) (fun x y H Q => y = .non ∧ rOp X.K CA .isN [x] H Q) := by
  intro pins s σ H x y v u Q I rx ry ⟨hy, F, G, σ', s', ds, r, hK, hC, R, hp, e, q⟩
  obtain ⟨d, rfl, p1⟩ := hp.inv1
  cases e
  exact op_isN pins s σ H x y v u Q I rx ry ⟨hy, by rw [p1.isN]; exact fin0 R q (.bl _)⟩
theorem o_isnN : OpR X (compareOp .IsNot) (fun x y H Q => y = .non ∧ rOp X.K CA .isnN [x] H Q) := by
  intro pins s σ H x y v u Q I rx ry ⟨hy, F, G, σ', s', ds, r, hK, hC, R, hp, e, q⟩
  obtain ⟨d, rfl, p1⟩ := hp.inv1
  cases e
  exact op_notN pins s σ H x y v u Q I rx ry ⟨hy, by rw [p1.isN]; exact fin0 R q (.bl _)⟩
theorem o_ix : IxR X (fun x y => rOp X.K CA .ix [x, y]) := by
  intro value slice pins s σ H x y v u Q I rx ry ⟨F, G, σ', s', ds, r, hK, hC, R, hp, e, q⟩ hs
  subst hC
  obtain ⟨d, d', rfl, p1, p2⟩ := hp.inv2
  replace e : ixS d d' = some r := e
  unfold ixS at e
  split at e
  · rename_i xs i
    cases hi : ixI xs i with
    | none => rw [hi] at e; cases e
    | some d =>
      rw [hi] at e
      cases e
      obtain ⟨p, vs, rfl, h1, r1⟩ := p1.lst R.gh
      obtain ⟨w, hw, rw'⟩ := r1.atI hi
      exact ix_list value slice pins s σ H _ y v u Q I rx ry ⟨p, vs, i, w, rfl, p2.int, SqL.of h1, hw, fin0 R q rw'⟩ hs
  · rename_i xs i
    cases hi : ixI xs i with
    | none => rw [hi] at e; cases e
    | some d =>
      rw [hi] at e
      cases e
      obtain ⟨p, vs, rfl, h1, r1⟩ := p1.tup R.gh
      rw [hK] at h1
      obtain ⟨w, hw, rw'⟩ := r1.atI hi
      exact ix_tup value slice pins s σ H _ y v u Q I rx ry ⟨p, vs, i, w, rfl, p2.int, h1, hw, fin0 R q rw'⟩ hs
  · rename_i z i
    split at e
    · rename_i hz
      cases hi : ixI z.cps.toList i with
      | none => rw [hi] at e; cases e
      | some c =>
        rw [hi] at e
        cases e
        exact ix_str value slice pins s σ H x y v u Q I rx ry ⟨z, i, c, p1.str, p2.int, sz hz, hi, fin0 R q (.str _)⟩ hs
    · cases e
  · cases e
/-- one argument -/
theorem rOp1 {o : Op} {xs : List V} {H : Hp} {Q : VK} (h : rOp X.K CA o xs H Q) (hn : ∀ ds x, opSem o ds = some x → ds.length = 1) : ∃ v F G σ s d x, xs = [v] ∧ F.K = X.K ∧ F.CA = CA ∧ RS F G H σ s ∧ Pk F G H v d ∧ opSem o [d] = some x ∧ ∀ v G' H', Grow G H G' H' → Res F G' H' σ s v x → Q v H' := by
  obtain ⟨F, G, σ', s', ds, r, hK, hC, R, hp, e, q⟩ := h
  have h1 := hn ds r e
  have h2 := hp.len
  obtain ⟨d, rfl⟩ := List.length_eq_one_iff.mp h1
  obtain ⟨x, rfl⟩ := List.length_eq_one_iff.mp (h2.trans h1)
  exact ⟨x, F, G, σ', s', d, r, rfl, hK, hC, R, hp.1, e, q⟩
theorem rOp2 {o : Op} {xs : List V} {H : Hp} {Q : VK} (h : rOp X.K CA o xs H Q) (hn : ∀ ds x, opSem o ds = some x → ds.length = 2) : ∃ v w F G σ s d d' x, xs = [v, w] ∧ F.K = X.K ∧ F.CA = CA ∧ RS F G H σ s ∧ Pk F G H v d ∧ Pk F G H w d' ∧ opSem o [d, d'] = some x ∧ ∀ v G' H', Grow G H G' H' → Res F G' H' σ s v x → Q v H' := by
  obtain ⟨F, G, σ', s', ds, r, hK, hC, R, hp, e, q⟩ := h
  have h1 := hn ds r e
  have h2 := hp.len
  obtain ⟨d, d', rfl⟩ := two_of h1
  obtain ⟨x, y, rfl⟩ := two_of (h2.trans h1)
  exact ⟨x, y, F, G, σ', s', d, d', r, rfl, hK, hC, R, hp.1, hp.2.1, e, q⟩
theorem len1 {o : Op} (h0 : opSem o [] = none) (h2 : ∀ a b r, opSem o (a :: b :: r) = none) (ds : List D) (x : SV) (h : opSem o ds = some x) : ds.length = 1 := by
  match ds, h with
  | [], h => rw [h0] at h; cases h
  | [_], _ => rfl
  | a :: b :: r, h => rw [h2] at h; cases h
theorem len2 {o : Op} (h0 : opSem o [] = none) (h1 : ∀ a, opSem o [a] = none) (h2 : ∀ a b c r, opSem o (a :: b :: c :: r) = none) (ds : List D) (x : SV) (h : opSem o ds = some x) : ds.length = 2 := by
  match ds, h with
  | [], h => rw [h0] at h; cases h
  | [a], h => rw [h1] at h; cases h
  | [_, _], _ => rfl
  | a :: b :: c :: r, h => rw [h2] at h; cases h
theorem o_len : CallR X (.builtin "len") (rOp X.K CA .len) := by
  intro pins s σ H xs us Q I rx h
  obtain ⟨v, F, G, σ', s', d, r, rfl, hK, hC, R, p1, e, q⟩ := rOp1 h (len1 rfl (fun a _ _ => by first | rfl | (cases a <;> rfl)))
  replace e : lenS d = some r := e
  unfold lenS at e
  split at e
  · cases e
    obtain ⟨p, vs, rfl, h1, r1⟩ := p1.lst R.gh
    exact call_len pins s σ H _ us Q I rx ⟨_, vs.length, rfl, .inl ⟨_, SqL.of h1, rfl⟩, by rw [r1.length]; exact fin0 R q (.int _)⟩
  · cases e
    obtain ⟨p, vs, rfl, h1, r1⟩ := p1.tup R.gh
    rw [hK] at h1
    exact call_len pins s σ H _ us Q I rx ⟨_, vs.length, rfl, .inr ⟨_, h1, rfl⟩, by rw [r1.length]; exact fin0 R q (.int _)⟩
  · split at e <;> cases e
    rename_i hz
    have := p1.str
    subst this
    exact call_len pins s σ H _ us Q I rx ⟨_, _, rfl, ⟨sz hz, rfl⟩, fin0 R q (.int _)⟩
  · cases e
theorem o_int1 : CallR X (.type "int") (rOp X.K CA .int1) := by
  intro pins s σ H xs us Q I rx h
  obtain ⟨v, F, G, σ', s', d, r, rfl, hK, hC, R, p1, e, q⟩ := rOp1 h (len1 rfl (fun a _ _ => by first | rfl | (cases a <;> rfl)))
  cases d <;> first | (cases e; done) | skip
  cases e
  have := p1.int
  subst this
  exact call_int1 pins s σ H _ us Q I rx (.inl ⟨_, rfl, fin0 R q (.int _)⟩)
theorem o_str1 : CallR X (.type "str") (rOp X.K CA .str1) := by
  intro pins s σ H xs us Q I rx h
  obtain ⟨v, F, G, σ', s', d, r, rfl, hK, hC, R, p1, e, q⟩ := rOp1 h (len1 rfl (fun a _ _ => by first | rfl | (cases a <;> rfl)))
  cases d <;> first | (cases e; done) | skip
  rename_i i
  replace e : (if i.natAbs.log2 < 1920 then some (SV.shr (.str (toString i))) else none) = some r := e
  split at e <;> cases e
  rename_i hz
  have := p1.int
  subst this
  exact call_str_int pins s σ H _ us Q I rx ⟨_, rfl, hz, fin0 R q (.str _)⟩
theorem o_tuple : CallR X (.type "tuple") (rOp X.K CA .tuple) := by
  intro pins s σ H xs us Q I rx h
  obtain ⟨v, F, G, σ', s', d, r, rfl, hK, hC, R, p1, e, q⟩ := rOp1 h (len1 rfl (fun a _ _ => by first | rfl | (cases a <;> rfl)))
  replace e : tupS d = some r := e
  unfold tupS at e
  split at e
  · cases e
    obtain ⟨p, vs, rfl, h1, r1⟩ := p1.lst R.gh
    exact call_tuple_of pins s σ H _ us Q I rx ⟨p, vs, rfl, .inl ⟨SqL.of h1, finT R q r1⟩⟩
  · cases e
    obtain ⟨p, vs, rfl, h1, r1⟩ := p1.tup R.gh
    rw [hK] at h1
    exact call_tuple_of pins s σ H _ us Q I rx ⟨p, vs, rfl, .inr ⟨h1, fin0 R q p1.tupG⟩⟩
  · cases e
theorem o_list : CallR X (.type "list") (rOp X.K CA .list) := by
  intro pins s σ H xs us Q I rx h
  obtain ⟨v, F, G, σ', s', d, r, rfl, hK, hC, R, p1, e, q⟩ := rOp1 h (len1 rfl (fun a _ _ => by first | rfl | (cases a <;> rfl)))
  replace e : lstS d = some r := e
  unfold lstS at e
  split at e
  · cases e
    obtain ⟨p, vs, rfl, h1, r1⟩ := p1.lst R.gh
    exact call_list_of pins s σ H _ us Q I rx ⟨p, vs, rfl, .inl (SqL.of h1), finL R q r1⟩
  · cases e
    obtain ⟨p, vs, rfl, h1, r1⟩ := p1.tup R.gh
    rw [hK] at h1
    exact call_list_of pins s σ H _ us Q I rx ⟨p, vs, rfl, .inr h1, finL R q r1⟩
  · cases e
theorem sorted_unique : ∀ {xs ys : List Int}, xs.Perm ys → xs.Pairwise (· ≤ ·) → ys.Pairwise (· ≤ ·) → xs = ys := fun hp h1 h2 =>
  List.Perm.eq_of_pairwise (le := fun a b => a ≤ b) (fun a b _ _ x y => Int.le_antisymm x y) h1 h2 hp
theorem o_sorted : CallR X (.builtin "sorted") (rOp X.K CA .sorted) := by
  intro pins s σ H xs us Q I rx h
  obtain ⟨v, F, G, σ', s', d, r, rfl, hK, hC, R, p1, e, q⟩ := rOp1 h (len1 rfl (fun a _ _ => by first | rfl | (cases a <;> rfl)))
  replace e : sortS d = some r := e
  unfold sortS at e
  split at e
  · rename_i ds
    cases hi : D.ints ds with
    | none => rw [hi] at e; cases e
    | some is =>
      rw [hi] at e
      cases e
      obtain ⟨p, vs, rfl, h1, r1⟩ := p1.lst R.gh
      have := r1.ints hi
      subst this
      refine cr_sortedI pins s σ H _ us Q I rx ⟨p, is, rfl, SqL.of h1, fun ns' a hp hs hn => ?_⟩
      have e1 : ns' = msort is := by
        refine sorted_unique (hp.trans (List.mergeSort_perm is _).symm) hs ?_
        have := List.pairwise_mergeSort (le := fun a b : Int => decide (a ≤ b)) (fun a b c x y => decide_eq_true (Int.le_trans (of_decide_eq_true x) (of_decide_eq_true y))) (fun a b => by
          rcases Int.le_total a b with z | z <;> simp [z]) is
        exact this.imp fun x => of_decide_eq_true x
      subst e1
      exact finL R q (Reps.ofInts _) a hn
  · rename_i ds
    cases hi : D.ints ds with
    | none => rw [hi] at e; cases e
    | some is =>
      rw [hi] at e
      cases e
      obtain ⟨p, vs, rfl, h1, r1⟩ := p1.tup R.gh
      have := r1.ints hi
      subst this
      rw [hK] at h1
      refine ET.cr_sortedIT pins s σ H _ us Q I rx ⟨p, is, rfl, h1, fun ns' a hp hs hn => ?_⟩
      have e1 : ns' = msort is := by
        refine sorted_unique (hp.trans (List.mergeSort_perm is _).symm) hs ?_
        have := List.pairwise_mergeSort (le := fun a b : Int => decide (a ≤ b)) (fun a b c x y => decide_eq_true (Int.le_trans (of_decide_eq_true x) (of_decide_eq_true y))) (fun a b => by
          rcases Int.le_total a b with z | z <;> simp [z]) is
        exact this.imp fun x => of_decide_eq_true x
      subst e1
      exact finL R q (Reps.ofInts _) a hn
  · cases e
theorem o_all (hc : X.calm = true) : CallR X (.builtin "all") (rOp X.K CA .all) := by
  intro pins s σ H xs us Q I rx h
  obtain ⟨v, F, G, σ', s', d, r, rfl, hK, hC, R, p1, e, q⟩ := rOp1 h (len1 rfl (fun a _ _ => by first | rfl | (cases a <;> rfl)))
  cases d <;> first | (cases e; done) | skip
  rename_i ds
  replace e : ((D.bls ds).map fun bs => SV.shr (.bl (bs.all id))) = some r := e
  cases hi : D.bls ds with
  | none => rw [hi] at e; cases e
  | some is =>
    rw [hi] at e
    cases e
    obtain ⟨p, vs, rfl, h1, r1⟩ := p1.lst R.gh
    have := r1.bls hi
    subst this
    exact cr_all hc pins s σ H _ us Q I rx ⟨p, is, rfl, SqL.of h1, fin0 R q (.bl _)⟩
theorem o_any (hc : X.calm = true) : CallR X (.builtin "any") (rOp X.K CA .any) := by
  intro pins s σ H xs us Q I rx h
  obtain ⟨v, F, G, σ', s', d, r, rfl, hK, hC, R, p1, e, q⟩ := rOp1 h (len1 rfl (fun a _ _ => by first | rfl | (cases a <;> rfl)))
  cases d <;> first | (cases e; done) | skip
  rename_i ds
  replace e : ((D.bls ds).map fun bs => SV.shr (.bl (bs.any id))) = some r := e
  cases hi : D.bls ds with
  | none => rw [hi] at e; cases e
  | some is =>
    rw [hi] at e
    cases e
    obtain ⟨p, vs, rfl, h1, r1⟩ := p1.lst R.gh
    have := r1.bls hi
    subst this
    exact cr_any hc pins s σ H _ us Q I rx ⟨p, is, rfl, SqL.of h1, fin0 R q (.bl _)⟩
theorem o_sum (hc : X.calm = true) : CallR X (.builtin "sum") (rOp X.K CA .sum) := by
  intro pins s σ H xs us Q I rx h
  obtain ⟨v, F, G, σ', s', d, r, rfl, hK, hC, R, p1, e, q⟩ := rOp1 h (len1 rfl (fun a _ _ => by first | rfl | (cases a <;> rfl)))
  cases d <;> first | (cases e; done) | skip
  rename_i ds
  replace e : ((D.ints ds).map fun bs => SV.shr (.int bs.sum)) = some r := e
  cases hi : D.ints ds with
  | none => rw [hi] at e; cases e
  | some is =>
    rw [hi] at e
    cases e
    obtain ⟨p, vs, rfl, h1, r1⟩ := p1.lst R.gh
    have := r1.ints hi
    subst this
    exact cr_sum hc pins s σ H _ us Q I rx ⟨p, is, rfl, SqL.of h1, fin0 R q (.int _)⟩
theorem o_max2 (hc : X.calm = true) : CallR X (.builtin "max") (rOp X.K CA .max2) := by
  intro pins s σ H xs us Q I rx h
  obtain ⟨v, w, F, G, σ', s', d, d', r, rfl, hK, hC, R, p1, p2, e, q⟩ := rOp2 h (len2 rfl (fun a => by cases a <;> rfl) (fun a b _ _ => by cases a <;> cases b <;> rfl))
  cases d <;> first | (cases e; done) | skip
  cases d' <;> first | (cases e; done) | skip
  cases e
  have h1 := p1.int
  have h2 := p2.int
  subst h1 h2
  exact call_max2 hc pins s σ H _ us Q I rx ⟨_, _, rfl, fin0 R q (.int _)⟩
theorem o_min2 (hc : X.calm = true) : CallR X (.builtin "min") (rOp X.K CA .min2) := by
  intro pins s σ H xs us Q I rx h
  obtain ⟨v, w, F, G, σ', s', d, d', r, rfl, hK, hC, R, p1, p2, e, q⟩ := rOp2 h (len2 rfl (fun a => by cases a <;> rfl) (fun a b _ _ => by cases a <;> cases b <;> rfl))
  cases d <;> first | (cases e; done) | skip
  cases d' <;> first | (cases e; done) | skip
  cases e
  have h1 := p1.int
  have h2 := p2.int
  subst h1 h2
  exact call_min2 hc pins s σ H _ us Q I rx ⟨_, _, rfl, fin0 R q (.int _)⟩
theorem o_divmod : CallR X (.builtin "divmod") (rOp X.K CA .divmod) := by
  intro pins s σ H xs us Q I rx h
  obtain ⟨v, w, F, G, σ', s', d, d', r, rfl, hK, hC, R, p1, p2, e, q⟩ := rOp2 h (len2 rfl (fun a => by cases a <;> rfl) (fun a b _ _ => by cases a <;> cases b <;> rfl))
  cases d <;> first | (cases e; done) | skip
  cases d' <;> first | (cases e; done) | skip
  rename_i i j
  replace e : (if divG j = true then some (SV.shr (.tup [.int (i / j), .int (i % j)])) else none) = some r := e
  split at e <;> cases e
  rename_i hg
  have h1 := p1.int
  have h2 := p2.int
  subst h1 h2
  exact call_divmod pins s σ H _ us Q I rx ⟨_, _, rfl, (divG_ok hg), finT R q (.cons (.int _) (.cons (.int _) .nil))⟩
/-- truth -/
theorem Pk.tru {F : Fr} {G H : Hp} {σ : L2.St} {s : S} (R : RS F G H σ s) {v : V} {d : D} {b : Bool} (h : Pk F G H v d) (e : d.truth = some b) : TruV F.K v H b := by
  unfold D.truth at e
  split at e
  · cases e; rw [h.non]; exact rfl
  · cases e; rw [h.bl]; exact rfl
  · cases e; rw [h.int]; exact rfl
  · split at e <;> cases e
    rename_i hz
    rw [h.str]
    exact ⟨sz hz, rfl⟩
  · cases e
    obtain ⟨p, vs, rfl, h1, r1⟩ := h.lst R.gh
    refine .inl ⟨_, SqL.of h1, ?_⟩
    cases r1 <;> rfl
  · cases e
    obtain ⟨p, vs, rfl, h1, r1⟩ := h.tup R.gh
    refine .inr (.inl ⟨_, h1, ?_⟩)
    cases r1 <;> rfl
  · cases e
end
end Den
set_option Elab.async false
set_option linter.all false
set_option maxRecDepth 100000
set_option autoImplicit false
set_option maxHeartbeats 4000000
namespace Den
open PySem PySem.Spec PyProof.Rows L2
/-! ### what a loop walks -/
def WalkOk (K : PySem.W.Frag) (vs : List V) (ps : List PV) (ds items : List D) (J : L2.It) : Prop := ∀ (F : Fr), F.K = K → ∀ (σ : L2.St) (G H : Hp) (s : S) (i : Nat), RS F G H σ s → PVs F G σ vs ps → s.looks ps = some ds →
  (items.length ≤ i → J.stop i H) ∧ ∀ d, items[i]? = some d → J.go i H ∧ ∀ x H', J.yld i H x H' → ∃ G', Ex G G' ∧ RS F G' H' σ s ∧ Rep F.K F.CA G' x d
section
variable {K : PySem.W.Frag} {F : Fr} {vs : List V} {ps : List PV} {ds items xs ys : List D}
theorem walk_list {a : Addr} : WalkOk K [.ref a] ps [.lst xs] xs (Itl K a) := fun F hK σ G H s i R pv e => by
  subst hK
  obtain ⟨p, vs, hv, h, r⟩ := (R.looks pv e).1.lst R.gh
  cases hv
  refine ⟨fun hi => ⟨vs, SqL.of h, by rw [r.length]; exact hi⟩, fun d hd => ?_⟩
  obtain ⟨v, e1, r1⟩ := r.get hd
  refine ⟨⟨vs, v, SqL.of h, e1⟩, fun x H' ⟨e2, e3⟩ => ?_⟩
  subst e2
  have := e3 vs (SqL.of h)
  rw [e1] at this
  cases this
  exact ⟨G, Evl.Ex.refl _, R, r1⟩
theorem walk_frl {a : Addr} : WalkOk K [.ref a] ps [.frl xs] xs (Itl K a) := fun F hK σ G H s i R pv e => by
  subst hK
  obtain ⟨p, vs, hv, h, r⟩ := (R.looks pv e).1.frl R.gh
  cases hv
  refine ⟨fun hi => ⟨vs, h, by rw [r.length]; exact hi⟩, fun d hd => ?_⟩
  obtain ⟨v, e1, r1⟩ := r.get hd
  refine ⟨⟨vs, v, h, e1⟩, fun x H' ⟨e2, e3⟩ => ?_⟩
  subst e2
  have := e3 vs h
  rw [e1] at this
  cases this
  exact ⟨G, Evl.Ex.refl _, R, r1⟩
theorem walk_tup {a : Addr} : WalkOk K [.ref a] ps [.tup xs] xs (Itt K a) := fun F hK σ G H s i R pv e => by
  subst hK
  obtain ⟨p, vs, hv, h, r⟩ := (R.looks pv e).1.tup R.gh
  cases hv
  refine ⟨fun hi => ⟨vs, h, by rw [r.length]; exact hi⟩, fun d hd => ?_⟩
  obtain ⟨v, e1, r1⟩ := r.get hd
  refine ⟨⟨vs, v, h, e1⟩, fun x H' ⟨e2, e3⟩ => ?_⟩
  subst e2
  have := e3 vs h
  rw [e1] at this
  cases this
  exact ⟨G, Evl.Ex.refl _, R, r1⟩
theorem walk_str {z : Str} : WalkOk K [.str z] ps [.str z] (z.cps.toList.map fun c => .str ⟨#[c]⟩) (Its z) := fun F hK σ G H s i R pv e => by
  subst hK
  refine ⟨fun hi => (by simpa using hi : z.cps.size ≤ i), fun d hd => ?_⟩
  rw [List.getElem?_map] at hd
  cases hc : z.cps.toList[i]? with
  | none => rw [hc] at hd; cases hd
  | some c =>
    rw [hc] at hd
    cases hd
    have hc' : z.cps[i]? = some c := by simpa using hc
    refine ⟨(Array.getElem?_eq_some_iff.mp hc').1, fun x H' ⟨e2, c', e3, e4⟩ => ?_⟩
    subst e2
    rw [hc'] at e3
    cases e3
    subst e4
    exact ⟨G, Evl.Ex.refl _, R, .str _⟩
theorem walk_rng {lo : Int} {n : Nat} : WalkOk K vs ps ds ((List.range n).map fun k => .int (lo + (k : Nat))) (Itr lo n) := fun F hK σ G H s i R pv e => by
  subst hK
  refine ⟨fun hi => (by simpa using hi : n ≤ i), fun d hd => ?_⟩
  rw [List.getElem?_map] at hd
  cases hc : (List.range n)[i]? with
  | none => rw [hc] at hd; cases hd
  | some c =>
    rw [hc] at hd
    cases hd
    obtain ⟨h1, h2⟩ := List.getElem?_eq_some_iff.mp hc
    rw [List.getElem_range] at h2
    subst h2
    refine ⟨(by simpa using h1 : i < n), fun x H' ⟨e2, e3⟩ => ?_⟩
    subst e2
    subst e3
    exact ⟨G, Evl.Ex.refl _, R, .int _⟩
theorem walk_rev {a : Addr} : WalkOk K [.ref a] ps [.lst xs] xs.reverse (Itv K a xs.length) := fun F hK σ G H s i R pv e => by
  subst hK
  obtain ⟨p, vs, hv, h, r⟩ := (R.looks pv e).1.lst R.gh
  cases hv
  refine ⟨fun hi => (by simpa using hi : xs.length ≤ i), fun d hd => ?_⟩
  have hlt : i < xs.length := by
    have := (List.getElem?_eq_some_iff.mp hd).1
    simpa using this
  rw [List.getElem?_reverse hlt] at hd
  obtain ⟨v, e1, r1⟩ := r.get hd
  refine ⟨⟨hlt, vs, v, SqL.of h, e1⟩, fun x H' ⟨e2, e3⟩ => ?_⟩
  subst e2
  have := e3 vs (SqL.of h)
  rw [e1] at this
  cases this
  exact ⟨G, Evl.Ex.refl _, R, r1⟩
theorem walk_revT {a : Addr} : WalkOk K [.ref a] ps [.tup xs] xs.reverse (RT.ItvT K a xs.length) := fun F hK σ G H s i R pv e => by
  subst hK
  obtain ⟨p, vs, hv, h, r⟩ := (R.looks pv e).1.tup R.gh
  cases hv
  refine ⟨fun hi => (by simpa using hi : xs.length ≤ i), fun d hd => ?_⟩
  have hlt : i < xs.length := by
    have := (List.getElem?_eq_some_iff.mp hd).1
    simpa using this
  rw [List.getElem?_reverse hlt] at hd
  obtain ⟨v, e1, r1⟩ := r.get hd
  refine ⟨⟨hlt, vs, v, h, e1⟩, fun x H' ⟨e2, e3⟩ => ?_⟩
  subst e2
  have := e3 vs h
  rw [e1] at this
  cases this
  exact ⟨G, Evl.Ex.refl _, R, r1⟩
theorem new_pair {G H : Hp} {σ : L2.St} {s : S} (R : RS F G H σ s) {T : Addr} {x y : V} {d e : D} (hT : H T = none) (rx : Rep F.K F.CA G x d) (ry : Rep F.K F.CA G y e) :
    ∃ G', Ex G G' ∧ RS F G' (upd H T (.tup [x, y])) σ s ∧ Rep F.K F.CA G' (.ref T) (.tup [d, e]) :=
  ⟨upd G T (.tup [x, y]), Evl.Ex.new (gnone R.gh hT), R.grow (Grow.newG R.gh hT), .tup (Evl.st_of upd_same) (.cons (rx.mono (Evl.Ex.new (gnone R.gh hT))) (.cons (ry.mono (Evl.Ex.new (gnone R.gh hT))) .nil))⟩
theorem walk_enum {a : Addr} : WalkOk K [.ref a] ps [.lst xs] (xs.zipIdx.map fun p => .tup [.int p.2, p.1]) (Ite K a) := fun F hK σ G H s i R pv e => by
  subst hK
  obtain ⟨p, vs, hv, h, r⟩ := (R.looks pv e).1.lst R.gh
  cases hv
  refine ⟨fun hi => ⟨vs, SqL.of h, by rw [r.length]; simpa using hi⟩, fun d hd => ?_⟩
  rw [List.getElem?_map, List.getElem?_zipIdx] at hd
  cases hc : xs[i]? with
  | none => rw [hc] at hd; cases hd
  | some c =>
    rw [hc] at hd
    cases hd
    obtain ⟨v, e1, r1⟩ := r.get hc
    refine ⟨⟨vs, v, SqL.of h, e1⟩, fun x H' ⟨T, x', e2, e3, e4, e5⟩ => ?_⟩
    subst e2 e4
    have := e5 vs (SqL.of h)
    rw [e1] at this
    cases this
    have := new_pair R e3 (.int ((i : Nat) : Int)) r1
    simpa using this
theorem walk_enumT {a : Addr} : WalkOk K [.ref a] ps [.tup xs] (xs.zipIdx.map fun p => .tup [.int p.2, p.1]) (ET.IteT K a) := fun F hK σ G H s i R pv e => by
  subst hK
  obtain ⟨p, vs, hv, h, r⟩ := (R.looks pv e).1.tup R.gh
  cases hv
  refine ⟨fun hi => ⟨vs, h, by rw [r.length]; simpa using hi⟩, fun d hd => ?_⟩
  rw [List.getElem?_map, List.getElem?_zipIdx] at hd
  cases hc : xs[i]? with
  | none => rw [hc] at hd; cases hd
  | some c =>
    rw [hc] at hd
    cases hd
    obtain ⟨v, e1, r1⟩ := r.get hc
    refine ⟨⟨vs, v, h, e1⟩, fun x H' ⟨T, x', e2, e3, e4, e5⟩ => ?_⟩
    subst e2 e4
    have := e5 vs (h)
    rw [e1] at this
    cases this
    have := new_pair R e3 (.int ((i : Nat) : Int)) r1
    simpa using this
theorem walk_enkL {a : Addr} {z : Int} : WalkOk K [.ref a] ps [.lst xs] (xs.zipIdx.map fun p => .tup [.int (z + p.2), p.1]) (ET.ItkL K z a) := fun F hK σ G H s i R pv e => by
  subst hK
  obtain ⟨p, vs, hv, h, r⟩ := (R.looks pv e).1.lst R.gh
  cases hv
  refine ⟨fun hi => ⟨vs, SqL.of h, by rw [r.length]; simpa using hi⟩, fun d hd => ?_⟩
  rw [List.getElem?_map, List.getElem?_zipIdx] at hd
  cases hc : xs[i]? with
  | none => rw [hc] at hd; cases hd
  | some c =>
    rw [hc] at hd
    cases hd
    obtain ⟨v, e1, r1⟩ := r.get hc
    refine ⟨⟨vs, v, SqL.of h, e1⟩, fun x H' ⟨T, x', e2, e3, e4, e5⟩ => ?_⟩
    subst e2 e4
    have := e5 vs (SqL.of h)
    rw [e1] at this
    cases this
    have := new_pair R e3 (.int (z + ((i : Nat) : Int))) r1
    simpa using this
theorem walk_enkT {a : Addr} {z : Int} : WalkOk K [.ref a] ps [.tup xs] (xs.zipIdx.map fun p => .tup [.int (z + p.2), p.1]) (ET.ItkT K z a) := fun F hK σ G H s i R pv e => by
  subst hK
  obtain ⟨p, vs, hv, h, r⟩ := (R.looks pv e).1.tup R.gh
  cases hv
  refine ⟨fun hi => ⟨vs, h, by rw [r.length]; simpa using hi⟩, fun d hd => ?_⟩
  rw [List.getElem?_map, List.getElem?_zipIdx] at hd
  cases hc : xs[i]? with
  | none => rw [hc] at hd; cases hd
  | some c =>
    rw [hc] at hd
    cases hd
    obtain ⟨v, e1, r1⟩ := r.get hc
    refine ⟨⟨vs, v, h, e1⟩, fun x H' ⟨T, x', e2, e3, e4, e5⟩ => ?_⟩
    subst e2 e4
    have := e5 vs (h)
    rw [e1] at this
    cases this
    have := new_pair R e3 (.int (z + ((i : Nat) : Int))) r1
    simpa using this
theorem walk_zip {a b : Addr} : WalkOk K [.ref a, .ref b] ps [.lst xs, .lst ys] ((xs.zip ys).map fun p => .tup [p.1, p.2]) (Itz K a b) := fun F hK σ G H s i R pv e => by
  subst hK
  obtain ⟨k1, k2, _⟩ := R.looks pv e
  obtain ⟨p, vs, hv, h, r⟩ := k1.lst R.gh
  obtain ⟨p', ws, hv', h', r'⟩ := k2.lst R.gh
  cases hv
  cases hv'
  refine ⟨fun hi => ⟨vs, ws, SqL.of h, SqL.of h', by rw [r.length, r'.length]; have : min xs.length ys.length ≤ i := by simpa using hi
                                                     omega⟩, fun d hd => ?_⟩
  rw [List.getElem?_map] at hd
  cases hc : (xs.zip ys)[i]? with
  | none => rw [hc] at hd; cases hd
  | some c =>
    rw [hc] at hd
    cases hd
    obtain ⟨c1, c2⟩ := List.getElem?_zip_eq_some.mp hc
    obtain ⟨v, e1, r1⟩ := r.get c1
    obtain ⟨w, e1', r1'⟩ := r'.get c2
    refine ⟨⟨vs, ws, v, w, SqL.of h, SqL.of h', e1, e1'⟩, fun x H' ⟨T, x', y', e2, e3, e4, e5, e6⟩ => ?_⟩
    subst e2 e4
    have := e5 vs (SqL.of h)
    rw [e1] at this
    cases this
    have := e6 ws (SqL.of h')
    rw [e1'] at this
    cases this
    exact new_pair R e3 r1 r1'
theorem walk_zipT {a b : Addr} : WalkOk K [.ref a, .ref b] ps [.tup xs, .tup ys] ((xs.zip ys).map fun p => .tup [p.1, p.2]) (RZ.ItzT K a b) := fun F hK σ G H s i R pv e => by
  subst hK
  obtain ⟨k1, k2, _⟩ := R.looks pv e
  obtain ⟨p, vs, hv, h, r⟩ := k1.tup R.gh
  obtain ⟨p', ws, hv', h', r'⟩ := k2.tup R.gh
  cases hv
  cases hv'
  refine ⟨fun hi => ⟨vs, ws, h, h', by rw [r.length, r'.length]; have : min xs.length ys.length ≤ i := by simpa using hi
                                       omega⟩, fun d hd => ?_⟩
  rw [List.getElem?_map] at hd
  cases hc : (xs.zip ys)[i]? with
  | none => rw [hc] at hd; cases hd
  | some c =>
    rw [hc] at hd
    cases hd
    obtain ⟨c1, c2⟩ := List.getElem?_zip_eq_some.mp hc
    obtain ⟨v, e1, r1⟩ := r.get c1
    obtain ⟨w, e1', r1'⟩ := r'.get c2
    refine ⟨⟨vs, ws, v, w, h, h', e1, e1'⟩, fun x H' ⟨T, x', y', e2, e3, e4, e5, e6⟩ => ?_⟩
    subst e2 e4
    have := e5 vs h
    rw [e1] at this
    cases this
    have := e6 ws h'
    rw [e1'] at this
    cases this
    exact new_pair R e3 r1 r1'
end
/-- a list, a tuple, a text -/
def iSeq (K : PySem.W.Frag) (tl : TE) : TI := fun σ H R => tl σ H fun x H1 => (∃ a, x = .ref a ∧ (∃ xs, SqL K H1 a xs) ∧ R (Itl K a) H1) ∨ (∃ a, x = .ref a ∧ (∃ xs, SqT K H1 a xs) ∧ R (Itt K a) H1) ∨ ∃ z, x = .str z ∧ R (Its z) H1
theorem pi_seq {X : Cx} {tg l : Expr} {tl : TE} (hl : PE X l tl) : PI X tg l (iSeq X.K tl) := by
  refine ⟨fun pins s σ H R I h => ?_⟩
  refine thn (hl.run pins s σ H _ I h) fun v s1 ⟨x, H1, I1, r1, q1⟩ => ?_
  rcases q1 with ⟨a, e, ⟨xs, hq⟩, q⟩ | ⟨a, e, ⟨xs, hq⟩, q⟩ | ⟨x, ex, q⟩
  · subst e
    cases r1
    obtain ⟨its, rv, p, hz⟩ := I1.list hq
    refine wpAny_pyIter_list p.isList ?_
    refine ⟨s1.heap.objs.size, [s1.heap.objs.size], _, _, H1, rfl, I1.kept (t' := s1.toks) fun b o e => Heap.get?_push_of_some _ e, turn_list a _, ⟨_, Heap.get?_push_size _ rfl, rfl, rfl⟩, fun b hb => ?_, q⟩
    have e : b = s1.heap.objs.size := by simpa using hb
    subst e
    exact I1.fpOk (Nat.le_refl _) (I1.hok.fresh (Nat.le_refl _))
  · subst e
    cases r1
    obtain ⟨its, rv, p, hz⟩ := I1.tuple hq
    refine wpAny_pyIter_tuple (show s1.heap.IsTuple a its.toArray from p) ?_
    refine ⟨s1.heap.objs.size, [s1.heap.objs.size], _, _, H1, rfl, I1.kept (t' := s1.toks) fun b o e => Heap.get?_push_of_some _ e, turn_tuple a _, ⟨_, Heap.get?_push_size _ rfl, rfl, rfl⟩, fun b hb => ?_, q⟩
    have e : b = s1.heap.objs.size := by simpa using hb
    subst e
    exact I1.fpOk (Nat.le_refl _) (I1.hok.fresh (Nat.le_refl _))
  · subst ex
    obtain ⟨t, rfl⟩ := r1
    cases ha : x.cps.all (· < 128)
    · exact wpAny_pyIter_wide ha (pi_one (tk := s1.toks) I1 _ (turn_str _ x t "str_iterator" (.inr rfl)) ⟨_, Heap.get?_push_size _ rfl, rfl, rfl⟩ q)
    · exact wpAny_pyIter_ascii ha (pi_one (tk := s1.toks) I1 _ (turn_str _ x t "str_ascii_iterator" (.inl rfl)) ⟨_, Heap.get?_push_size _ rfl, rfl, rfl⟩ q)
theorem _root_.L2.PI.imp {X : Cx} {tg e : Expr} {t t' : TI} (h : PI X tg e t) (i : ∀ σ H R, t' σ H R → t σ H R) : PI X tg e t' := ⟨fun pins s σ H R I q => h.run pins s σ H R I (i σ H R q)⟩
def PostI (F : Fr) (G : Hp) (σ : L2.St) (W : WX) (it : It) (R : L2.It → Hp → Prop) : Out (List PV) → Prop
  | .ok ps s => ∀ vs G' H', Ex G G' → RS F G' H' σ s → PVs F G' σ vs ps → ∃ ds items, s.looks ps = some ds ∧ itSem it ds = some items ∧ ∀ J, (∀ qs, WalkOk F.K vs qs ds items J) → R J H'
  | .ex c p s => exW F G σ W c p s
  | .bad => False
def denI (K : PySem.W.Frag) (CA : Nat → Option Addr) (W : WX) (it : It) (m : S → Out (List PV)) : TI := fun σ H R => ∃ F G s, F.K = K ∧ F.CA = CA ∧ RS F G H σ s ∧ PostI F G σ W it R (m s)
def evP (E : Env) (x : X) (s : S) : Out PV := pvOf x (evX E x s) s
section
variable {K : PySem.W.Frag} {CA : Nat → Option Addr} {W : WX} {E : Env}
theorem opt_some {α : Type} {s s' : S} {o : Option α} {x : α} (h : Out.opt s o = .ok x s') : o = some x ∧ s = s' := by
  cases o with
  | none => cases h
  | some y => cases h; exact ⟨rfl, rfl⟩
theorem opt_ex {α : Type} {s s' : S} {o : Option α} {c : Nat} {p : List (Str × D)} (h : Out.opt s o = .ex c p s') : False := by cases o <;> cases h
/-- the last step: an operation on operands -/
theorem op_last {F : Fr} {G0 G H : Hp} {σ : L2.St} {s : S} {Q : VK} {o : Op} {vs : List V} {ps : List PV} (hK : F.K = K) (hC : F.CA = CA) (x0 : Ex G0 G) (R : RS F G H σ s) (pv : PVs F G σ vs ps)
    (h : PostE F G0 σ W Q (.opt s ((s.looks ps).bind (opSem o)))) : rOp K CA o vs H Q := by
  cases hl : s.looks ps with
  | none => rw [hl] at h; exact h.elim
  | some ds =>
    rw [hl] at h
    cases ho : opSem o ds with
    | none => rw [show (some ds).bind (opSem o) = opSem o ds from rfl, ho] at h; exact h.elim
    | some x =>
      rw [show (some ds).bind (opSem o) = opSem o ds from rfl, ho] at h
      exact ⟨F, G, σ, s, ds, x, hK, hC, R, R.looks pv hl, ho, fun v G' H' g r => h v G' H' (x0.trans g.g) (R.grow g) r⟩
theorem chain1 {o : Op} {a : X} {σ : L2.St} {H : Hp} {Q : VK} (h : denE K CA W (evX E (.op o (.cons a .nil))) σ H Q) : denP K CA W (evP E a) σ H fun x H1 => rOp K CA o [x] H1 Q := by
  obtain ⟨F, G, s, hK, hC, R, P⟩ := h
  refine ⟨F, G, s, hK, hC, R, ?_⟩
  have P : PostE F G σ W Q ((((evP E a s).bind fun p s1 => (Out.ok [] s1 : Out (List PV)).bind fun ps s2 => .ok (p :: ps) s2)).bind fun ps s1 => .opt s1 ((s1.looks ps).bind (opSem o))) := P
  cases hm : evP E a s with
  | ok p s1 =>
    rw [hm] at P
    exact fun v G1 H1 x1 R1 pv => op_last hK hC x1 R1 (show PVs F G1 σ [v] [p] from ⟨pv, trivial⟩) P
  | ex c p s1 => rw [hm] at P; exact P
  | bad => rw [hm] at P; exact P
theorem chain2 {o : Op} {a b : X} {σ : L2.St} {H : Hp} {Q : VK} (h : denE K CA W (evX E (.op o (.cons a (.cons b .nil)))) σ H Q) : denP K CA W (evP E a) σ H fun x H1 => denP K CA W (evP E b) σ H1 fun y H2 => rOp K CA o [x, y] H2 Q := by
  obtain ⟨F, G, s, hK, hC, R, P⟩ := h
  refine ⟨F, G, s, hK, hC, R, ?_⟩
  have P : PostE F G σ W Q ((((evP E a s).bind fun p s1 => ((evP E b s1).bind fun p2 s2 => (Out.ok [] s2 : Out (List PV)).bind fun ps s3 => .ok (p2 :: ps) s3).bind fun ps s2 => .ok (p :: ps) s2)).bind fun ps s1 => .opt s1 ((s1.looks ps).bind (opSem o))) := P
  cases hm : evP E a s with
  | ok p s1 =>
    rw [hm] at P
    refine fun v G1 H1 x1 R1 pv => ⟨F, G1, s1, hK, hC, R1, ?_⟩
    have P : PostE F G σ W Q (((((evP E b s1).bind fun p2 s2 => (Out.ok [] s2 : Out (List PV)).bind fun ps s3 => .ok (p2 :: ps) s3).bind fun ps s2 => .ok (p :: ps) s2)).bind fun ps s1 => .opt s1 ((s1.looks ps).bind (opSem o))) := P
    cases hm2 : evP E b s1 with
    | ok p2 s2 =>
      rw [hm2] at P
      exact fun w G2 H2 x2 R2 pv2 => op_last hK hC (x1.trans x2) R2 (show PVs F G2 σ [v, w] [p, p2] from ⟨pv.mono x2, pv2, trivial⟩) P
    | ex c p s1 => rw [hm2] at P; exact exW.mono x1 P
    | bad => rw [hm2] at P; exact P
  | ex c p s1 => rw [hm] at P; exact P
  | bad => rw [hm] at P; exact P
theorem chain3 {o : Op} {a b c : X} {σ : L2.St} {H : Hp} {Q : VK} (h : denE K CA W (evX E (.op o (.cons a (.cons b (.cons c .nil))))) σ H Q) :
    denP K CA W (evP E a) σ H fun x H1 => denP K CA W (evP E b) σ H1 fun y H2 => denP K CA W (evP E c) σ H2 fun z H3 => rOp K CA o [x, y, z] H3 Q := by
  obtain ⟨F, G, s, hK, hC, R, P⟩ := h
  refine ⟨F, G, s, hK, hC, R, ?_⟩
  have P : PostE F G σ W Q ((((evP E a s).bind fun p s1 => ((evP E b s1).bind fun p2 s2 => ((evP E c s2).bind fun p3 s3 => (Out.ok [] s3 : Out (List PV)).bind fun ps s4 => .ok (p3 :: ps) s4).bind fun ps s3 => .ok (p2 :: ps) s3).bind fun ps s2 => .ok (p :: ps) s2)).bind fun ps s1 => .opt s1 ((s1.looks ps).bind (opSem o))) := P
  cases hm : evP E a s with
  | ok p s1 =>
    rw [hm] at P
    refine fun v G1 H1 x1 R1 pv => ⟨F, G1, s1, hK, hC, R1, ?_⟩
    have P : PostE F G σ W Q (((((evP E b s1).bind fun p2 s2 => ((evP E c s2).bind fun p3 s3 => (Out.ok [] s3 : Out (List PV)).bind fun ps s4 => .ok (p3 :: ps) s4).bind fun ps s3 => .ok (p2 :: ps) s3).bind fun ps s2 => .ok (p :: ps) s2)).bind fun ps s1 => .opt s1 ((s1.looks ps).bind (opSem o))) := P
    cases hm2 : evP E b s1 with
    | ok p2 s2 =>
      rw [hm2] at P
      refine fun w G2 H2 x2 R2 pv2 => ⟨F, G2, s2, hK, hC, R2, ?_⟩
      have P : PostE F G σ W Q ((((((evP E c s2).bind fun p3 s3 => (Out.ok [] s3 : Out (List PV)).bind fun ps s4 => .ok (p3 :: ps) s4).bind fun ps s3 => .ok (p2 :: ps) s3).bind fun ps s2 => .ok (p :: ps) s2)).bind fun ps s1 => .opt s1 ((s1.looks ps).bind (opSem o))) := P
      cases hm3 : evP E c s2 with
      | ok p3 s3 =>
        rw [hm3] at P
        exact fun u G3 H3 x3 R3 pv3 => op_last hK hC ((x1.trans x2).trans x3) R3 (show PVs F G3 σ [v, w, u] [p, p2, p3] from ⟨(pv.mono x2).mono x3, pv2.mono x3, pv3, trivial⟩) P
      | ex c p s1 => rw [hm3] at P; exact exW.mono (x1.trans x2) P
      | bad => rw [hm3] at P; exact P
    | ex c p s1 => rw [hm2] at P; exact exW.mono x1 P
    | bad => rw [hm2] at P; exact P
  | ex c p s1 => rw [hm] at P; exact P
  | bad => rw [hm] at P; exact P
theorem chainN {o : Op} {xs : XS} {σ : L2.St} {H : Hp} {Q : VK} (h : denE K CA W (evX E (.op o xs)) σ H Q) : tCB (rOp K CA o) (denPs K CA W (evPs E xs)) σ H Q := by
  obtain ⟨F, G, s, hK, hC, R, P⟩ := h
  refine ⟨F, G, s, hK, hC, R, ?_⟩
  have P : PostE F G σ W Q ((evPs E xs s).bind fun ps s1 => .opt s1 ((s1.looks ps).bind (opSem o))) := P
  cases hm : evPs E xs s with
  | ok p s1 =>
    rw [hm] at P
    exact fun v G1 H1 x1 R1 pv => op_last hK hC x1 R1 pv P
  | ex c p s1 => rw [hm] at P; exact P
  | bad => rw [hm] at P; exact P
end
end Den
set_option Elab.async false
set_option linter.all false
set_option maxRecDepth 100000
set_option autoImplicit false
set_option maxHeartbeats 4000000
namespace Den
open PySem PySem.Spec PyProof.Rows L2
/-! ### calls of defs -/
section
variable (K : PySem.W.Frag) (CA : Nat → Option Addr)
def ArgsOk (B H : Hp) : List V → List Arg → List Addr → Prop
  | [], [], [] => True
  | v :: vs, .val d :: as, rs => Rep K CA B v d ∧ ArgsOk B H vs as rs
  | v :: vs, .bor d :: as, r :: rs => (v = .ref r ∧ One K CA B H r d ∧ B r = none) ∧ ArgsOk B H vs as rs
  | _, _, _ => False
structure After (B H : Hp) (rs : List Addr) (G' H' : Hp) (bs : List D) : Prop where
  bg : Ex B G'
  gh : Ex G' H'
  keep : ∀ a o, a ∉ rs → H a = some o → H' a = some o
  new : ∀ a, G' a ≠ none → B a ≠ none ∨ H a = none
  blen : bs.length = rs.length
  bors : ∀ (k : Nat) (p : Addr) (d : D), rs[k]? = some p → bs[k]? = some d → One K CA G' H' p d ∧ G' p = none
def ResF (H G' H' : Hp) (x : V) : SV → Prop
  | .shr d => Rep K CA G' x d
  | .own d => ∃ p, x = .ref p ∧ One K CA G' H' p d ∧ G' p = none ∧ H p = none
  | .bor _ => False
inductive ExcF (G H : Hp) (c : Nat) (p : List (Str × D)) : Value → Option Addr → Prop
  | non {C : Addr} : CA c = some C → p = [] → ExcF G H c p (.ref C) none
  | dict {C dx : Addr} {fs : List (Str × V)} : CA c = some C → G dx = some (.xd fs) → fs.map (·.1) = p.map (·.1) → Reps K CA G (fs.map (·.2)) (p.map (·.2)) → p ≠ [] → ExcF G H c p (.ref C) (some dx)
def EndF (B H : Hp) (rs : List Addr) (Q : VK) (E : XK) : OF → Prop
  | .ret v bs => ∀ x G' H', After K CA B H rs G' H' bs → ResF K CA H G' H' x v → Q x H'
  | .ex c p bs => ∀ cls d G' H', After K CA B H rs G' H' bs → ExcF K CA G' H' c p cls d → E cls d H'
  | .bad => False
def spF (g : List Arg → OF) : Sp := fun vs H Q E => ∃ B as rs, Ex B H ∧ rs.Nodup ∧ ArgsOk K CA B H vs as rs ∧ EndF K CA B H rs Q E (g as)
end
section
variable {F : Fr} {G H G' H' : Hp} {σ : L2.St} {s s' s1 : S}
/-- an operand that may be changed, at that slot -/
def MutAt (F : Fr) (G H : Hp) (σ : L2.St) (s : S) (i : Nat) (a : Addr) : Prop := σ[i]? = some (some (.ref a)) ∧ (∃ y, s.env[i]? = some (some y) ∧ y.mutb = true) ∧ G a = none
def ArgsPre (F : Fr) (G H : Hp) (σ : L2.St) (s : S) : List Bool → List PV → List V → List Arg → List Addr → Prop
  | [], [], [], [], [] => True
  | false :: ms, p :: ps, v :: vs, .val d :: as, rs => (s.look p = some d ∧ (Rep F.K F.CA G v d ∨ ∃ i a, p = .at i ∧ v = .ref a ∧ MutAt F G H σ s i a ∧ One F.K F.CA G H a d)) ∧ ArgsPre F G H σ s ms ps vs as rs
  | true :: ms, .at i :: ps, v :: vs, .bor d :: as, r :: rs => (v = .ref r ∧ MutAt F G H σ s i r ∧ One F.K F.CA G H r d) ∧ ArgsPre F G H σ s ms ps vs as rs
  | _, _, _, _, _ => False
theorem mut_slot (R : RS F G H σ s) {i : Nat} {v : V} {d : D} (h : σ[i]? = some (some v)) (m : s.mutb i = true) (e : s.look (.at i) = some d) : ∃ a, v = .ref a ∧ MutAt F G H σ s i a ∧ One F.K F.CA G H a d := by
  have e : (s.slot i).bind s.data = some d := e
  unfold S.mutb at m
  split at m
  · rename_i d' hs
    rw [hs] at e
    cases e
    obtain ⟨v', e1, p, rfl, o, n, z⟩ := R.slots i _ (slot_env hs)
    rw [h] at e1
    cases e1
    exact ⟨p, rfl, ⟨h, ⟨_, slot_env hs, rfl⟩, n⟩, o⟩
  · rename_i k hs
    rw [hs] at e
    obtain ⟨v', e1, p, e2, rfl⟩ := R.slots i _ (slot_env hs)
    rw [h] at e1
    cases e1
    obtain ⟨o, n⟩ := R.bors k p d e2 e
    exact ⟨p, rfl, ⟨h, ⟨_, slot_env hs, rfl⟩, n⟩, o⟩
  · cases m
theorem val_pre (R : RS F G H σ s) {v : V} {p : PV} {d : D} (h : PVOk F G σ v p) (e : s.look p = some d) : Rep F.K F.CA G v d ∨ ∃ i a, (p = .at i ∧ v = .ref a ∧ MutAt F G H σ s i a ∧ One F.K F.CA G H a d) ∨ (∃ k, p = .br k) := by
  cases p with
  | val d' => cases e; exact .inl h
  | br k => exact .inr ⟨0, 0, .inr ⟨k, rfl⟩⟩
  | «at» i =>
    have e' : (s.slot i).bind s.data = some d := e
    cases hs : s.slot i with
    | none => rw [hs] at e'; cases e'
    | some x =>
      cases hm : x.mutb with
      | false =>
        cases x with
        | shr d' =>
          rw [hs] at e'
          cases e'
          obtain ⟨v', e1, sl⟩ := R.slots i _ (slot_env hs)
          have h' : σ[i]? = some (some v) := h
          rw [h'] at e1
          cases e1
          exact .inl sl
        | own d' => cases hm
        | bor k => cases hm
      | true =>
        have m : s.mutb i = true := by
          unfold S.mutb
          rw [hs]
          cases x with
          | shr d' => cases hm
          | own d' => rfl
          | bor k => rfl
        obtain ⟨a, e1, e2, e3⟩ := mut_slot R h m e
        exact .inr ⟨i, a, .inl ⟨rfl, e1, e2, e3⟩⟩
theorem args_pre (R : RS F G H σ s) : ∀ {ms : List Bool} {ps : List PV} {vs : List V} {as : List Arg}, (∀ p ∈ ps, ∀ k, p ≠ .br k) → PVs F G σ vs ps → s.args ms ps = some as →
    ∃ rs, ArgsPre F G H σ s ms ps vs as rs ∧ rs.length = (borPs ms ps).length ∧ ∀ (k i : Nat) (r : Addr), (borPs ms ps)[k]? = some i → rs[k]? = some r → MutAt F G H σ s i r
  | [], [], vs, as, _, pv, e => by
    unfold S.args at e
    cases e
    cases vs with
    | nil => exact ⟨[], trivial, rfl, fun k i r h => by simp [borPs] at h⟩
    | cons _ _ => exact pv.elim
  | false :: ms, p :: ps, vs, as, nb, pv, e => by
    cases vs with
    | nil => exact pv.elim
    | cons v vs =>
      unfold S.args at e
      cases hl : s.look p with
      | none => rw [hl] at e; cases e
      | some d =>
        rw [hl] at e
        cases ha : s.args ms ps with
        | none => rw [ha] at e; cases e
        | some as' =>
          rw [ha] at e
          cases e
          obtain ⟨rs, h1, h2, h3⟩ := args_pre R (fun p hp => nb p (List.mem_cons_of_mem _ hp)) pv.2 ha
          refine ⟨rs, ⟨⟨hl, ?_⟩, h1⟩, ?_, ?_⟩
          · rcases val_pre R pv.1 hl with h | ⟨i, a, h | ⟨k, hk⟩⟩
            · exact .inl h
            · exact .inr ⟨i, a, h⟩
            · exact absurd hk (nb p List.mem_cons_self k)
          · rw [h2]; cases p <;> rfl
          · have : borPs (false :: ms) (p :: ps) = borPs ms ps := by cases p <;> rfl
            rw [this]
            exact h3
  | true :: ms, .at i :: ps, vs, as, nb, pv, e => by
    cases vs with
    | nil => exact pv.elim
    | cons v vs =>
      unfold S.args at e
      split at e
      · rename_i hm
        cases hl : s.look (.at i) with
        | none => rw [hl] at e; cases e
        | some d =>
          rw [hl] at e
          cases ha : s.args ms ps with
          | none => rw [ha] at e; cases e
          | some as' =>
            rw [ha] at e
            cases e
            obtain ⟨rs, h1, h2, h3⟩ := args_pre R (fun p hp => nb p (List.mem_cons_of_mem _ hp)) pv.2 ha
            obtain ⟨a, e1, e2, e3⟩ := mut_slot R pv.1 hm hl
            refine ⟨a :: rs, ⟨⟨e1, e2, e3⟩, h1⟩, by simp [borPs, h2], fun k j r q1 q2 => ?_⟩
            cases k with
            | zero => cases q1; cases q2; exact e2
            | succ k => exact h3 k j r q1 q2
      · cases e
  | true :: ms, .val _ :: ps, vs, as, _, _, e => by unfold S.args at e; cases e
  | true :: ms, .br _ :: ps, vs, as, _, _, e => by unfold S.args at e; cases e
  | [], _ :: _, _, _, _, _, e => by unfold S.args at e; cases e
  | false :: _, [], _, _, _, _, e => by unfold S.args at e; cases e
  | true :: _, [], _, _, _, _, e => by unfold S.args at e; cases e
/-- the callee's shared world: all operands that are not lent -/
theorem peek_world (R : RS F G H σ s) : ∀ {ms : List Bool} {ps : List PV} {vs : List V} {as : List Arg} {rs : List Addr}, ArgsPre F G H σ s ms ps vs as rs →
    ∃ B, Ex G B ∧ Ex B H ∧ (∀ a, B a ≠ none → G a ≠ none ∨ ∃ i ∈ atsOf (valPs ms ps), MutAt F G H σ s i a) ∧ ((∀ r ∈ rs, B r = none) → ArgsOk F.K F.CA B H vs as rs)
  | [], [], vs, as, rs, h => by
    cases vs with
    | cons _ _ => exact h.elim
    | nil => cases as with
      | cons _ _ => exact h.elim
      | nil => cases rs with
        | cons _ _ => exact h.elim
        | nil => exact ⟨G, Evl.Ex.refl _, R.gh, fun _ h => .inl h, fun _ => trivial⟩
  | false :: ms, p :: ps, v :: vs, .val d :: as, rs, ⟨⟨_, h⟩, t⟩ => by
    obtain ⟨B, x1, x2, nw, k⟩ := peek_world R t
    have hv : ∀ i, i ∈ atsOf (valPs ms ps) → i ∈ atsOf (valPs (false :: ms) (p :: ps)) := fun i hi => by
      cases p with
      | val d => exact hi
      | «at» j => exact List.mem_cons_of_mem _ hi
      | br k => exact hi
    rcases h with h | ⟨i, a, rfl, rfl, m, o⟩
    · exact ⟨B, x1, x2, fun a ha => (nw a ha).imp id fun ⟨i, h1, h2⟩ => ⟨i, hv i h1, h2⟩, fun hr => ⟨h.mono x1, k hr⟩⟩
    · cases hB : B a with
      | some u =>
        have hu := x2 _ _ hB
        have hr : Rep F.K F.CA B (.ref a) d := by
          cases o with
          | lst e r => rw [e] at hu; cases hu; exact .lst hB (r.mono x1)
          | dic e r => rw [e] at hu; cases hu; exact .dic hB (r.mono x1)
          | obj c e r => rw [e] at hu; cases hu; exact .obj c hB (r.mono x1)
        exact ⟨B, x1, x2, fun a ha => (nw a ha).imp id fun ⟨i, h1, h2⟩ => ⟨i, hv i h1, h2⟩, fun h => ⟨hr, k h⟩⟩
      | none =>
        obtain ⟨u, hu, hr⟩ := (o.mono x1 fun _ q => q).freeze hB
        refine ⟨upd B a u, x1.trans (Evl.Ex.new hB), Ex.upd_both x2 hu, fun b hb => ?_, fun h => ⟨hr, ?_⟩⟩
        · by_cases e : b = a
          · subst e
            exact .inr ⟨i, List.mem_cons_self, m⟩
          · rw [upd_ne e] at hb
            exact (nw b hb).imp id fun ⟨i, h1, h2⟩ => ⟨i, hv i h1, h2⟩
        · have hrs : ∀ r ∈ rs, B r = none := fun r hr => by
            have := h r hr
            by_cases e : r = a
            · subst e; exact hB
            · rw [upd_ne e] at this; exact this
          have ho := k hrs
          have hne : ∀ r ∈ rs, r ≠ a := fun r hr e => by
            have := h r hr
            rw [e, upd_same] at this
            cases this
          -- the larger world
          have up : ∀ {vs : List V} {as : List Arg} {rs : List Addr}, (∀ r ∈ rs, r ≠ a) → ArgsOk F.K F.CA B H vs as rs → ArgsOk F.K F.CA (upd B a u) H vs as rs := by
            intro vs
            induction vs with
            | nil => intro as rs hn h; cases as <;> cases rs <;> first | trivial | exact h.elim
            | cons v vs ih =>
              intro as rs hn h
              cases as with
              | nil => exact h.elim
              | cons x as =>
                cases x with
                | val d => exact ⟨h.1.mono (Evl.Ex.new hB), ih hn h.2⟩
                | bor d =>
                  cases rs with
                  | nil => exact h.elim
                  | cons r rs =>
                    obtain ⟨⟨e1, e2, e3⟩, h2⟩ := h
                    exact ⟨⟨e1, e2.mono (Evl.Ex.new hB) fun _ q => q, by rw [upd_ne (hn r List.mem_cons_self)]; exact e3⟩, ih (fun r hr => hn r (List.mem_cons_of_mem _ hr)) h2⟩
          exact up hne ho
  | true :: ms, .at i :: ps, v :: vs, .bor d :: as, r :: rs, ⟨⟨h1, h2, h3⟩, t⟩ => by
    obtain ⟨B, x1, x2, nw, k⟩ := peek_world R t
    exact ⟨B, x1, x2, nw, fun hr => ⟨⟨h1, h3.mono x1 fun _ q => q, hr r List.mem_cons_self⟩, k fun r hr' => hr r (List.mem_cons_of_mem _ hr')⟩⟩
  | [], _ :: _, _, _, _, h => by simp [ArgsPre] at h
  | true :: _, .val _ :: _, _, _, _, h => by simp [ArgsPre] at h
  | true :: _, .br _ :: _, _, _, _, h => by simp [ArgsPre] at h
  | false :: _, [], _, _, _, h => by simp [ArgsPre] at h
  | true :: _, [], _, _, _, h => by simp [ArgsPre] at h
  | false :: _, _ :: _, [], _, _, h => by simp [ArgsPre] at h
  | false :: _, _ :: _, _ :: _, [], _, h => by simp [ArgsPre] at h
  | false :: _, _ :: _, _ :: _, .bor _ :: _, _, h => by simp [ArgsPre] at h
  | true :: _, .at _ :: _, [], _, _, h => by simp [ArgsPre] at h
  | true :: _, .at _ :: _, _ :: _, [], _, h => by simp [ArgsPre] at h
  | true :: _, .at _ :: _, _ :: _, .val _ :: _, _, h => by simp [ArgsPre] at h
  | true :: _, .at _ :: _, _ :: _, .bor _ :: _, [], h => by simp [ArgsPre] at h
/-- what was lent comes back -/
theorem RS.stores {G2 : Hp} : ∀ {is : List Nat} {rs : List Addr} {bs : List D} {Hk : Hp} {s s1 : S}, RS F G2 Hk σ s → s.stores is bs = some s1 → is.length = rs.length → (∀ (k i : Nat) (r : Addr), is[k]? = some i → rs[k]? = some r → σ[i]? = some (some (.ref r))) →
    (∀ (k : Nat) (r : Addr) (d : D), rs[k]? = some r → bs[k]? = some d → One F.K F.CA G2 H' r d) → RS F G2 (fun a => if a ∈ rs then H' a else Hk a) σ s1
  | [], rs, bs, Hk, s, s1, R, e, hl, _, _ => by
    cases rs with
    | cons _ _ => cases hl
    | nil =>
      cases bs with
      | cons _ _ => unfold S.stores at e; cases e
      | nil =>
        unfold S.stores at e
        cases e
        have : (fun a => if a ∈ ([] : List Addr) then H' a else Hk a) = Hk := by funext a; simp
        rw [this]
        exact R
  | i :: is, rs, bs, Hk, s, s1, R, e, hl, hi, ho => by
    cases rs with
    | nil => cases hl
    | cons r rs =>
      cases bs with
      | nil => unfold S.stores at e; cases e
      | cons d bs =>
        unfold S.stores at e
        cases hs : s.store i d with
        | none => rw [hs] at e; cases e
        | some s2 =>
          rw [hs] at e
          obtain ⟨p, e1, n, k⟩ := R.store hs
          have e2 := hi 0 i r rfl rfl
          rw [e1] at e2
          cases e2
          have o := ho 0 r d rfl rfl
          obtain ⟨u, hu⟩ := o.there
          have R2 := k u (o.mono (Evl.Ex.refl _) fun o q => by rw [hu] at q; cases q; exact upd_same)
          have := RS.stores R2 (show s2.stores is bs = some s1 from e) (by simpa using hl) (fun k i r a b => hi (k + 1) i r a b) (fun k r d a b => ho (k + 1) r d a b)
          have he : (fun a => if a ∈ rs then H' a else upd Hk r u a) = (fun a => if a ∈ r :: rs then H' a else Hk a) := by
            funext a
            by_cases h1 : a ∈ rs
            · rw [if_pos h1, if_pos (List.mem_cons_of_mem _ h1)]
            · rw [if_neg h1]
              by_cases h2 : a = r
              · subst h2
                rw [upd_same, if_pos List.mem_cons_self, hu]
              · rw [upd_ne h2, if_neg (by simp only [List.mem_cons, not_or]; exact ⟨h2, h1⟩)]
          rw [he] at this
          exact this
theorem flat1_any {K : PySem.W.Frag} {CA : Nat → Option Addr} {G G' H : Hp} {p : Addr} {d : D} (h : One K CA G H p d) (f : d.flat1 = true) : One K CA G' H p d := by
  have fl : ∀ {vs : List V} {ds : List D}, Reps K CA G vs ds → ds.all D.flat = true → Reps K CA G' vs ds := by
    intro vs
    induction vs with
    | nil => intro ds h _; cases h; exact .nil
    | cons v vs ih =>
      intro ds h f
      cases h with
      | cons r t =>
        rw [List.all_cons, Bool.and_eq_true] at f
        exact .cons (Rep.ofV (r.flatV f.1)) (ih t f.2)
  cases h with
  | lst e r => exact .lst e (fl r f)
  | dic e r => exact .dic e (fl r f)
  | obj c e r => exact .obj c e (fl r f)
/-- the tuples that are new -/
def isT : HO → Bool
  | .tup _ => true | .frz _ (.tup _) => true | _ => false
def tW (G G' : Hp) : Hp := fun a => match G a with
  | some o => some o
  | none => match G' a with
    | some o => if isT o = true then some o else none
    | none => none
theorem tW_t {G G' : Hp} (x : Ex G G') {a : Addr} {o : HO} (h : G' a = some o) (t : isT o = true) : tW G G' a = some o := by
  unfold tW
  cases e : G a with
  | some u =>
    have := x a u e
    rw [h] at this
    exact this.symm
  | none => simp only [h, t, if_true]
theorem tW_ex {G G' : Hp} : Ex G (tW G G') := fun a o h => by unfold tW; rw [h]
theorem tW_inv {G G' : Hp} {a : Addr} {o : HO} (h : tW G G' a = some o) : G a = some o ∨ (G a = none ∧ G' a = some o ∧ isT o = true) := by
  unfold tW at h
  cases e : G a with
  | some u => rw [e] at h; exact .inl h
  | none =>
    rw [e] at h
    cases e2 : G' a with
    | none => rw [e2] at h; cases h
    | some u =>
      rw [e2] at h
      simp only at h
      split at h
      · cases h; exact .inr ⟨rfl, rfl, by assumption⟩
      · cases h
theorem Rep.tflW {K : PySem.W.Frag} {CA : Nat → Option Addr} {G G' : Hp} (x : Ex G G') {v : V} {d : D} (h : Rep K CA G' v d) : d.tfl = true → Rep K CA (tW G G') v d := by
  induction h using Rep.rec (motive_2 := fun vs ds _ => D.tfls ds = true → Reps K CA (tW G G') vs ds) with
  | non => exact fun _ => .non
  | bl b => exact fun _ => .bl b
  | int i => exact fun _ => .int i
  | str x => exact fun _ => .str x
  | lst h _ r => exact fun f => Bool.noConfusion f
  | tup h _ r =>
    refine fun f => .tup ?_ (r f)
    rcases h with (h | ⟨o, h⟩) | h
    · exact .inl (.inl (tW_t x h rfl))
    · exact .inl (.inr ⟨o, tW_t x h rfl⟩)
    · exact .inr h
  | frl h _ r => exact fun f => Bool.noConfusion f
  | dic h _ r => exact fun f => Bool.noConfusion f
  | obj c h _ r => exact fun f => Bool.noConfusion f
  | nil => exact Reps.nil
  | cons _ _ r1 r2 =>
    rename_i f
    have f : (_ && _) = true := f
    rw [Bool.and_eq_true] at f
    exact Reps.cons (r1 f.1) (r2 f.2)
theorem Reps.tflW {K : PySem.W.Frag} {CA : Nat → Option Addr} {G G' : Hp} (x : Ex G G') {vs : List V} {ds : List D} (h : Reps K CA G' vs ds) (f : D.tfls ds = true) : Reps K CA (tW G G') vs ds := by
  induction vs generalizing ds with
  | nil => cases h; exact .nil
  | cons v vs ih =>
    cases h with
    | cons r t =>
      have f : (_ && _) = true := f
      rw [Bool.and_eq_true] at f
      exact .cons (r.tflW x f.1) (ih t f.2)
theorem tfl1_W {K : PySem.W.Frag} {CA : Nat → Option Addr} {G G' H : Hp} (x : Ex G G') {p : Addr} {d : D} (h : One K CA G' H p d) (f : d.tfl1 = true) : One K CA (tW G G') H p d := by
  cases h with
  | lst e r => exact .lst e (r.tflW x f)
  | dic e r => exact .dic e (r.tflW x f)
  | obj c e r => exact .obj c e (r.tflW x f)
theorem One.notT {K : PySem.W.Frag} {CA : Nat → Option Addr} {G H : Hp} {p : Addr} {d : D} (h : One K CA G H p d) : ∃ o, H p = some o ∧ isT o = false := by
  cases h with
  | lst e r => exact ⟨_, e, rfl⟩
  | dic e r => exact ⟨_, e, rfl⟩
  | obj c e r => exact ⟨_, e, rfl⟩
/-- the state behind a call: G2 what is shared now -/
theorem RS.called {B G2 : Hp} {ms : List Bool} {ps : List PV} {rs : List Addr} {bs : List D} (R : RS F G H σ s) (hl : rs.length = (borPs ms ps).length) (hm : ∀ (k i : Nat) (r : Addr), (borPs ms ps)[k]? = some i → rs[k]? = some r → σ[i]? = some (some (.ref r)))
    (A : After F.K F.CA B H rs G' H' bs) (e : s.stores (borPs ms ps) bs = some s1) (x : Ex G G2) (x2 : Ex G2 H') (nw : ∀ a, G2 a ≠ none → G a ≠ none ∨ H a = none) (nr : ∀ r ∈ rs, G2 r = none)
    (ho : ∀ (k : Nat) (r : Addr) (d : D), rs[k]? = some r → bs[k]? = some d → One F.K F.CA G2 H' r d) : RS F G2 H' σ s1 := by
  have g : Grow G H G2 (fun a => if a ∈ rs then H a else H' a) := by
    refine ⟨x, fun a o h => ?_, fun a o h => ?_, nw⟩
    · by_cases m : a ∈ rs
      · rw [if_pos m]; exact h
      · rw [if_neg m]; exact A.keep a o m h
    · by_cases m : a ∈ rs
      · rw [nr a m] at h; cases h
      · rw [if_neg m]; exact x2 a o h
  have := RS.stores (H' := H') (R.grow g) e hl.symm hm ho
  have he : (fun a => if a ∈ rs then H' a else (fun a => if a ∈ rs then H a else H' a) a) = H' := by
    funext a
    by_cases m : a ∈ rs
    · rw [if_pos m]
    · rw [if_neg m]; show (if a ∈ rs then H a else H' a) = H' a; rw [if_neg m]
  rw [he] at this
  exact this
theorem no_slot (R : RS F G H σ s) {p : Addr} (h : H p = none) (i : Nat) (y : SV) (e1 : s.env[i]? = some (some y)) (e2 : y.mutb = true) : σ[i]? ≠ some (some (.ref p)) := by
  intro q
  obtain ⟨v, e3, sl⟩ := R.slots i y e1
  rw [e3] at q
  cases q
  cases y with
  | shr d => cases e2
  | own d =>
    obtain ⟨p', e4, o4, _⟩ := sl
    cases e4
    obtain ⟨u, hu⟩ := o4.there
    rw [h] at hu; cases hu
  | bor k =>
    obtain ⟨p', e4, e5⟩ := sl
    cases e5
    obtain ⟨d, o4, _⟩ := R.brs (List.mem_of_getElem? e4)
    obtain ⟨u, hu⟩ := o4.there
    rw [h] at hu; cases hu
theorem store_env {i j : Nat} {d : D} {y : SV} (h : s.store i d = some s1) (e : s1.env[j]? = some (some y)) (m : y.mutb = true) : ∃ y', s.env[j]? = some (some y') ∧ y'.mutb = true := by
  unfold S.store at h
  split at h
  · rename_i d0 hs
    cases h
    have he := slot_env hs
    by_cases hj : i = j
    · subst hj; exact ⟨_, he, rfl⟩
    · have e : (s.env.set i (some (.own d)))[j]? = some (some y) := e
      rw [List.getElem?_set_ne hj] at e
      exact ⟨y, e, m⟩
  · cases h; exact ⟨y, e, m⟩
  · cases h
theorem stores_env : ∀ {is : List Nat} {bs : List D} {s s1 : S} {j : Nat} {y : SV}, s.stores is bs = some s1 → s1.env[j]? = some (some y) → y.mutb = true → ∃ y', s.env[j]? = some (some y') ∧ y'.mutb = true
  | [], [], s, s1, j, y, h, e, m => by unfold S.stores at h; cases h; exact ⟨y, e, m⟩
  | i :: is, d :: bs, s, s1, j, y, h, e, m => by
    unfold S.stores at h
    cases hs : s.store i d with
    | none => rw [hs] at h; cases h
    | some s2 =>
      rw [hs] at h
      obtain ⟨y', e1, m1⟩ := stores_env (show s2.stores is bs = some s1 from h) e m
      exact store_env hs e1 m1
  | [], _ :: _, _, _, _, _, h, _, _ => by unfold S.stores at h; cases h
  | _ :: _, [], _, _, _, _, h, _, _ => by unfold S.stores at h; cases h
theorem args_moved {G1 : Hp} (x : Ex G G1) : ∀ {ms : List Bool} {ps : List PV} {vs : List V} {as : List Arg} {rs : List Addr}, ArgsPre F G H σ s ms ps vs as rs →
    (∀ i ∈ atsOf (valPs ms ps), ∃ d v, σ[i]? = some (some v) ∧ s.look (.at i) = some d ∧ Rep F.K F.CA G1 v d) → (∀ r ∈ rs, G1 r = none) → ArgsOk F.K F.CA G1 H vs as rs
  | [], [], vs, as, rs, h, _, _ => by
    cases vs with
    | cons _ _ => exact h.elim
    | nil => cases as with
      | cons _ _ => exact h.elim
      | nil => cases rs with
        | cons _ _ => exact h.elim
        | nil => trivial
  | false :: ms, p :: ps, v :: vs, .val d :: as, rs, ⟨⟨hl, h⟩, t⟩, hm, hr => by
    have hv : ∀ i, i ∈ atsOf (valPs ms ps) → i ∈ atsOf (valPs (false :: ms) (p :: ps)) := fun i hi => by
      cases p with
      | val d => exact hi
      | «at» j => exact List.mem_cons_of_mem _ hi
      | br k => exact hi
    refine ⟨?_, args_moved x t (fun i hi => hm i (hv i hi)) hr⟩
    rcases h with h | ⟨i, a, rfl, rfl, m, o⟩
    · exact h.mono x
    · obtain ⟨d', v', e1, e2, e3⟩ := hm i List.mem_cons_self
      rw [hl] at e2
      cases e2
      rw [m.1] at e1
      cases e1
      exact e3
  | true :: ms, .at i :: ps, v :: vs, .bor d :: as, r :: rs, ⟨⟨h1, h2, h3⟩, t⟩, hm, hr =>
    ⟨⟨h1, h3.mono x fun _ q => q, hr r List.mem_cons_self⟩, args_moved x t hm fun r hr' => hr r (List.mem_cons_of_mem _ hr')⟩
  | [], _ :: _, _, _, _, h, _, _ => by simp [ArgsPre] at h
  | true :: _, .val _ :: _, _, _, _, h, _, _ => by simp [ArgsPre] at h
  | true :: _, .br _ :: _, _, _, _, h, _, _ => by simp [ArgsPre] at h
  | false :: _, [], _, _, _, h, _, _ => by simp [ArgsPre] at h
  | true :: _, [], _, _, _, h, _, _ => by simp [ArgsPre] at h
  | false :: _, _ :: _, [], _, _, h, _, _ => by simp [ArgsPre] at h
  | false :: _, _ :: _, _ :: _, [], _, h, _, _ => by simp [ArgsPre] at h
  | false :: _, _ :: _, _ :: _, .bor _ :: _, _, h, _, _ => by simp [ArgsPre] at h
  | true :: _, .at _ :: _, [], _, _, h, _, _ => by simp [ArgsPre] at h
  | true :: _, .at _ :: _, _ :: _, [], _, h, _, _ => by simp [ArgsPre] at h
  | true :: _, .at _ :: _, _ :: _, .val _ :: _, _, h, _, _ => by simp [ArgsPre] at h
  | true :: _, .at _ :: _, _ :: _, .bor _ :: _, [], h, _, _ => by simp [ArgsPre] at h
theorem ExcF.ok {c : Nat} {p : List (Str × D)} {cls : Value} {d : Option Addr} (h : ExcF F.K F.CA G H c p cls d) : ExcOk F G H c p cls d := by
  cases h with
  | non a b => exact .non a b
  | dict a b c d e => exact .dict a b c d e
/-- f(..) -/
theorem call_ok {G0 : Hp} {E : Env} {W : WX} {Q : VK} {f : Nat} {ms : List Bool} {ps : List PV} {vs : List V} (R : RS F G H σ s) (x0 : Ex G0 G) (pv : PVs F G σ vs ps) (nb : ∀ p ∈ ps, ∀ k, p ≠ .br k) (h : PostE F G0 σ W Q (callRun E f ms ps s)) :
    spF F.K F.CA (E.cl f) vs H Q (WE W σ) := by
  unfold callRun at h
  cases ha : s.args ms ps with
  | none => rw [ha] at h; exact h.elim
  | some as =>
    rw [ha] at h
    simp only at h
    split at h
    · rename_i hck
      rw [Bool.and_eq_true, decide_eq_true_eq, List.all_eq_true] at hck
      obtain ⟨hnd, hdj⟩ := hck
      obtain ⟨rs, pre, hlen, hmut⟩ := args_pre R nb pv ha
      have hadr : ∀ (k i : Nat) (r : Addr), (borPs ms ps)[k]? = some i → rs[k]? = some r → σ[i]? = some (some (.ref r)) := fun k i r a b => (hmut k i r a b).1
      have hof : ∀ r ∈ rs, ∃ i, i ∈ borPs ms ps ∧ MutAt F G H σ s i r := fun r hr => by
        obtain ⟨k, hk, e⟩ := List.mem_iff_getElem.mp hr
        have hk' : k < (borPs ms ps).length := by rw [← hlen]; exact hk
        exact ⟨_, List.getElem_mem hk', hmut k _ r (List.getElem?_eq_getElem hk') (by rw [List.getElem?_eq_getElem hk, e])⟩
      have hinj : ∀ i j r, MutAt F G H σ s i r → MutAt F G H σ s j r → i = j := fun i j r ⟨a1, ⟨y, a2, a3⟩, _⟩ ⟨b1, ⟨z, b2, b3⟩, _⟩ => R.inj i j y z a2 b2 a3 b3 (by rw [a1, b1])
      have hrn : rs.Nodup := by
        rw [List.nodup_iff_pairwise_ne, List.pairwise_iff_getElem]
        intro j k hj hk hjk e
        have hj' : j < (borPs ms ps).length := by rw [← hlen]; exact hj
        have hk' : k < (borPs ms ps).length := by rw [← hlen]; exact hk
        have m1 := hmut j _ rs[j] (List.getElem?_eq_getElem hj') (List.getElem?_eq_getElem hj)
        have m2 := hmut k _ rs[k] (List.getElem?_eq_getElem hk') (List.getElem?_eq_getElem hk)
        rw [← e] at m2
        have := (List.getElem_inj hnd).mp (hinj _ _ _ m1 m2)
        omega
      have hapart : ∀ i ∈ atsOf (valPs ms ps), ∀ r ∈ rs, ¬ MutAt F G H σ s i r := fun i hi r hr m => by
        obtain ⟨j, hj, m2⟩ := hof r hr
        have e := hinj i j r m m2
        subst e
        exact of_decide_eq_true (hdj i hi) hj
      have hGr : ∀ r ∈ rs, G r = none := fun r hr => (hof r hr).choose_spec.2.2.2
      have hGnot : ∀ {a : Addr} {o : HO}, G a = some o → a ∉ rs := fun {a o} h m => by rw [hGr a m] at h; cases h
      -- one that does
      have moveEnd : ∀ {s1 : S}, s.moves (valPs ms ps) = some s1 → ∃ G1, Ex G G1 ∧ RS F G1 H σ s1 ∧ ArgsOk F.K F.CA G1 H vs as rs ∧ ∀ {G' H' : Hp} {bs : List D} {s2 : S}, After F.K F.CA G1 H rs G' H' bs → s1.stores (borPs ms ps) bs = some s2 → RS F G' H' σ s2 := fun {s1} hmv => by
        obtain ⟨G1, x1, R1, hm, nw⟩ := R.moves hmv
        have hr1 : ∀ r ∈ rs, G1 r = none := fun r hr => by
          cases hq : G1 r with
          | none => rfl
          | some o =>
            rcases nw r (by rw [hq]; exact fun z => nomatch z) with z | ⟨i, hi, z1, z2⟩
            · exact absurd (hGr r hr) z
            · exact absurd ⟨z1, z2, hGr r hr⟩ (hapart i hi r hr)
        refine ⟨G1, x1, R1, args_moved x1 pre hm hr1, fun {G' H' bs s2} A hs => ?_⟩
        refine RS.called R1 hlen hadr A hs A.bg A.gh A.new (fun r hr => ?_) fun k r d e1 e2 => (A.bors k r d e1 e2).1
        obtain ⟨k, hk, e⟩ := List.mem_iff_getElem.mp hr
        have hk' : k < bs.length := by rw [A.blen]; exact hk
        exact (A.bors k r _ (by rw [List.getElem?_eq_getElem hk, e]) (List.getElem?_eq_getElem hk')).2
      obtain ⟨B, b1, b2, bnw, bok⟩ := peek_world R pre
      have hrB : ∀ r ∈ rs, B r = none := fun r hr => by
        cases hq : B r with
        | none => rfl
        | some o =>
          rcases bnw r (by rw [hq]; exact fun z => nomatch z) with z | ⟨i, hi, m⟩
          · exact absurd (hGr r hr) z
          · exact absurd m (hapart i hi r hr)
      have hmt : ∀ {i : Nat} {a : Addr}, MutAt F G H σ s i a → ∃ o, H a = some o ∧ isT o = false := fun {i a} ⟨m1, ⟨y, m2, m3⟩, m4⟩ => by
        obtain ⟨v, e, sl⟩ := R.slots i y m2
        rw [m1] at e
        cases e
        cases y with
        | shr d => cases m3
        | own d => obtain ⟨p, e2, o, _⟩ := sl; cases e2; exact o.notT
        | bor k =>
          obtain ⟨p, e2, e3⟩ := sl
          cases e3
          have hk : k < s.bs.length := by rw [R.blen]; exact (List.getElem?_eq_some_iff.mp e2).1
          exact (R.bors k _ _ e2 (List.getElem?_eq_getElem hk)).1.notT
      -- an end that leaves but new tuples behind
      have flatEnd : ∀ {G' H' : Hp} {bs : List D} {s1 : S}, After F.K F.CA B H rs G' H' bs → bs.all D.tfl1 = true → s.stores (borPs ms ps) bs = some s1 → RS F (tW G G') H' σ s1 := fun {G' H' bs s1} A hf hs => by
        have xG : Ex G G' := b1.trans A.bg
        refine RS.called R hlen hadr A hs tW_ex (fun a o h => ?_) (fun a h => ?_) (fun r hr => ?_) fun k r d e1 e2 => tfl1_W xG (A.bors k r d e1 e2).1 (List.all_eq_true.mp hf d (List.mem_of_getElem? e2))
        · rcases tW_inv h with h | ⟨_, h, _⟩
          · exact A.keep a o (hGnot h) (R.gh a o h)
          · exact A.gh a o h
        · cases e : tW G G' a with
          | none => exact absurd e h
          | some o =>
            rcases tW_inv e with h1 | ⟨h0, h1, h2⟩
            · exact .inl (by rw [h1]; exact fun z => nomatch z)
            · rcases A.new a (by rw [h1]; exact fun z => nomatch z) with z | z
              · rcases bnw a z with z | ⟨i, hi, m⟩
                · exact absurd h0 z
                · obtain ⟨o2, g1, g2⟩ := hmt m
                  cases eB : B a with
                  | none => exact absurd eB z
                  | some o3 =>
                    have q1 := A.bg a o3 eB
                    have q2 := b2 a o3 eB
                    rw [h1] at q1
                    rw [g1] at q2
                    cases q1; cases q2
                    rw [h2] at g2; cases g2
              · exact .inr z
        · cases e : tW G G' r with
          | none => rfl
          | some o =>
            rcases tW_inv e with h1 | ⟨_, h1, _⟩
            · rw [hGr r hr] at h1; cases h1
            · obtain ⟨k, hk, ek⟩ := List.mem_iff_getElem.mp hr
              have hk' : k < bs.length := by rw [A.blen]; exact hk
              have := (A.bors k r _ (by rw [List.getElem?_eq_getElem hk, ek]) (List.getElem?_eq_getElem hk')).2
              rw [this] at h1; cases h1
      split at h
      · -- a value
        rename_i v bs hret
        split at h
        · rename_i hf
          rw [Bool.and_eq_true] at hf
          split at h
          · exact h.elim
          · rename_i s1 hs
            refine ⟨B, as, rs, b2, hrn, bok hrB, ?_⟩
            rw [hret]
            intro x G' H' A rf
            have R1 := flatEnd A hf.2 hs
            have xG : Ex G G' := b1.trans A.bg
            refine h x (tW G G') H' (x0.trans tW_ex) R1 ?_
            cases v with
            | shr d => exact Res.shr (Rep.tflW xG rf hf.1)
            | own d =>
              obtain ⟨p, rfl, o, n, hn⟩ := rf
              refine ⟨⟨p, rfl, tfl1_W xG o hf.1, ?_, R.h0 hn⟩, fun _ => (by intro z; cases z), fun _ i y e1 e2 => ?_⟩
              · cases e : tW G G' p with
                | none => rfl
                | some o2 =>
                  rcases tW_inv e with h1 | ⟨_, h1, _⟩
                  · rw [gnone R.gh hn] at h1; cases h1
                  · rw [n] at h1; cases h1
              obtain ⟨y', e3, e4⟩ := stores_env hs e1 e2
              exact no_slot R hn i y' e3 e4
            | bor k => exact rf.elim
        · split at h
          · exact h.elim
          · rename_i s1 hmv
            split at h
            · exact h.elim
            · rename_i s2 hs
              obtain ⟨G1, x1, R1, ao, fin⟩ := moveEnd hmv
              refine ⟨G1, as, rs, R1.gh, hrn, ao, ?_⟩
              rw [hret]
              intro x G' H' A rf
              refine h x G' H' ((x0.trans x1).trans A.bg) (fin A hs) ?_
              cases v with
              | shr d => exact Res.shr rf
              | own d =>
                obtain ⟨p, rfl, o, n, hn⟩ := rf
                refine ⟨⟨p, rfl, o, n, R.h0 hn⟩, fun _ => (by intro z; cases z), fun _ i y e1 e2 => ?_⟩
                obtain ⟨y', e3, e4⟩ := stores_env hs e1 e2
                exact no_slot R1 hn i y' e3 e4
              | bor k => exact rf.elim
      · -- an exception
        rename_i c p bs hret
        split at h
        · rename_i hf
          rw [Bool.and_eq_true] at hf
          split at h
          · exact h.elim
          · rename_i s1 hs
            refine ⟨B, as, rs, b2, hrn, bok hrB, ?_⟩
            rw [hret]
            intro cls d G' H' A ef
            refine h (tW G G') H' cls d (x0.trans tW_ex) (flatEnd A hf.2 hs) ?_
            have : p = [] := by cases p with
              | nil => rfl
              | cons _ _ => cases hf.1
            subst this
            cases ef with
            | non a b => exact .non a b
            | dict a b c d e => exact absurd rfl e
        · split at h
          · exact h.elim
          · rename_i s1 hmv
            split at h
            · exact h.elim
            · rename_i s2 hs
              obtain ⟨G1, x1, R1, ao, fin⟩ := moveEnd hmv
              refine ⟨G1, as, rs, R1.gh, hrn, ao, ?_⟩
              rw [hret]
              intro cls d G' H' A ef
              exact h G' H' cls d ((x0.trans x1).trans A.bg) (fin A hs) ef.ok
      · exact h.elim
    · exact h.elim
end
end Den
set_option Elab.async false
set_option linter.all false
set_option maxRecDepth 100000
set_option autoImplicit false
set_option maxHeartbeats 4000000
namespace Den
open PySem PySem.Spec PyProof.Rows L2
/-! ### the text and the program's -/
/-- a class of the text: its name, the names that are the instances' alone, its constants, may it be made -/
structure CInfo where
  name : Str
  flds : List Str
  cons : List (Str × D)
  mks : Bool
structure Tab where
  fs : List FI
  bi : List Str
  cs : List (Str × D)
  exs : List Str
  cls : List (Nat × CInfo) := []
def okName (x : Str) : Bool := !(x == "__debug__") && !(x == "__classdict__") && !(x == "__name__")
def visB (sc : Scope) (x : Str) : Bool := okName x && (match sc.names.lookup x with | some .local => true | some .cell => true | some .free => true | _ => false)
def glB (sc : Scope) (x : Str) : Bool := okName x && decide (sc.names.lookup x = some .globalImplicit)
def plain : Expr → Bool
  | .Starred .. => false | .Slice .. => false | .Set .. => false | _ => true
def plainT : Expr → Bool
  | .UnaryOp .Not _ _ => false | .BoolOp .. => false | .IfExp .. => false | .Compare .. => false | _ => true
def bopOf : Op → Option Operator
  | .add => some .Add | .sub => some .Sub | .mul => some .Mult | .fdiv => some .FloorDiv | .mod => some .Mod | .pow => some .Pow | .band => some .BitAnd | .shr => some .RShift | _ => none
def copOf : Op → Option CmpOp
  | .eq => some .Eq | .ne => some .NotEq | .lt => some .Lt | .le => some .LtE | .gt => some .Gt | .ge => some .GtE | .isin => some .In | .notin => some .NotIn | _ => none
def fnOf : Op → Option Str
  | .len => some "len" | .int1 => some "int" | .str1 => some "str" | .tuple => some "tuple" | .list => some "list" | .sorted => some "sorted" | .all => some "all" | .any => some "any" | .sum => some "sum"
  | .max2 => some "max" | .min2 => some "min" | .divmod => some "divmod" | _ => none
/-- a receiver that is no bare call -/
def plainA : Expr → Bool
  | .Call _ [] [] _ => false | _ => true
def isTyName (t : Str) : Bool := t == "bool" || t == "int" || t == "str" || t == "tuple" || t == "list"
def BM.name : BM → Str
  | .index => "index"
def Mu.name : Mu → Str
  | .append => "append" | .reverse => "reverse" | .insert => "insert" | .pop => "pop" | .popat => "pop" | .extend => "extend" | .clear => "clear"
/-- the parts of an operation, and the global names that it leans on -/
def shape (o : Op) (e : Expr) : Option (List Str × List Expr) :=
  match bopOf o with
  | some b => match e with
    | .BinOp l p r _ => if p = b then some ([], [l, r]) else none
    | _ => none
  | none => match copOf o with
    | some c => match e with
      | .Compare l [p] [r] _ => if p = c then some ([], [l, r]) else none
      | _ => none
    | none => match fnOf o with
      | some f => match e with
        | .Call (.Name g _) (a :: as) [] _ => if g = f then some ([f], a :: as) else none
        | _ => none
      | none => match o with
        | .neg => match e with
          | .UnaryOp .USub a _ => some ([], [a])
          | _ => none
        | .isN => match e with
          | .Compare l [.Is] [.Constant .none _ _] _ => some ([], [l])
          | _ => none
        | .isnN => match e with
          | .Compare l [.IsNot] [.Constant .none _ _] _ => some ([], [l])
          | _ => none
        | .ix => match e with
          | .Subscript l r _ => some ([], [l, r])
          | _ => none
        | .sl false false => match e with
          | .Subscript l (.Slice none none none _) _ => some ([], [l])
          | _ => none
        | .sl true false => match e with
          | .Subscript l (.Slice (some r) none none _) _ => some ([], [l, r])
          | _ => none
        | .sl false true => match e with
          | .Subscript l (.Slice none (some r) none _) _ => some ([], [l, r])
          | _ => none
        | .rev => match e with
          | .Subscript l (.Slice none none (some (.UnaryOp .USub (.Constant (.int 1) _ _) _)) _) _ => some ([], [l])
          | _ => none
        | .lrg => match e with
          | .Call (.Name f _) [.Call (.Name u _) [l] [] _] [] _ => if f = "list" ∧ u = "range" then some (["list", "range"], [l]) else none
          | _ => none
        | .trg => match e with
          | .Call (.Name f _) [.Call (.Name u _) [l] [] _] [] _ => if f = "tuple" ∧ u = "range" then some (["tuple", "range"], [l]) else none
          | _ => none
        | .isinst [t] => match e with
          | .Call (.Name f _) [l, .Name u _] [] _ => if f = "isinstance" ∧ t = u ∧ isTyName t = true then some ([f, t], [l]) else none
          | _ => none
        | _ => none
mutual
def chkTg (N : List Str) (sc : Scope) (fnb : Str → Bool) : Tg → Expr → Bool
  | .nm i, .Name x _ => okName x && decide (N[i]? = some x) && (decide (sc.names.lookup x = some .local) || (decide (sc.names.lookup x = some .cell) && fnb x))
  | .tup ts, .Tuple es _ _ => chkTgs N sc fnb ts es
  | _, _ => false
def chkTgs (N : List Str) (sc : Scope) (fnb : Str → Bool) : List Tg → List Expr → Bool
  | [], [] => true
  | t :: ts, e :: es => plain e && chkTg N sc fnb t e && chkTgs N sc fnb ts es
  | _, _ => false
end
def T.isTru : T → Bool
  | .tru => true | _ => false
mutual
def tgIn (is : List Nat) : Tg → Bool
  | .nm i => is.contains i
  | .tup ts => tgsIn is ts
def tgsIn (is : List Nat) : List Tg → Bool
  | [] => true
  | t :: ts => tgIn is t && tgsIn is ts
end
def isTup : Expr → Bool
  | .Tuple .. => true | _ => false
section
variable (Tb : Tab) (N : List Str)
def nameB (sc : Scope) (i : Nat) (x : Str) : Bool := visB sc x && decide (N[i]? = some x)
def glT (sc : Scope) (g : Str) : Bool := glB sc g && Tb.bi.contains g
def fldOk (cs : List Nat) (f : Str) : Bool := cs.all fun c => match Tb.cls.lookup c with | some I => I.flds.contains f | none => false
def conOk (cs : List Nat) (f : Str) (d : D) : Bool := cs.all fun c => match Tb.cls.lookup c with | some I => decide (I.cons.lookup f = some d) | none => false
def methOk (m : Str) (cs : List (Nat × Nat)) : Bool := cs.all fun p => (Tb.cls.lookup p.1).isSome && (match Tb.fs[p.2]? with | some J => decide (J.own = .meth p.1 m) | none => false)
def statOk (f : Nat) (C m : Str) : Bool := match Tb.fs[f]? with
  | some J => match J.own with
    | .stat c m' => decide (m' = m) && (match Tb.cls.lookup c with | some I => decide (I.name = C) | none => false)
    | _ => false
  | none => false
def makeOk (c f : Nat) (C : Str) : Bool := (match Tb.cls.lookup c with | some I => decide (I.name = C) && I.mks | none => false) && (match Tb.fs[f]? with | some J => decide (J.own = .meth c "__init__") | none => false)
mutual
def chkX (sc : Scope) : X → Expr → Bool
  | .var i, e => match e with
    | .Name x _ => nameB N sc i x
    | _ => false
  | .int i, e => match e with
    | .Constant (.int j) _ _ => decide (i = j)
    | _ => false
  | .str i, e => match e with
    | .Constant (.str j) _ _ => decide (i = j)
    | _ => false
  | .bl i, e => match e with
    | .Constant (.bool j) _ _ => decide (i = j)
    | _ => false
  | .non, e => match e with
    | .Constant .none _ _ => true
    | _ => false
  | .glo x d, e => match e with
    | .Name y _ => decide (x = y) && glB sc x && decide (Tb.cs.lookup x = some d)
    | _ => false
  | .op o xs, e => match shape o e with
    | some (gs, es) => gs.all (glT Tb sc) && chkXs sc xs es
    | none => false
  | .lst xs, e => match e with
    | .List es _ => chkXs sc xs es
    | _ => false
  | .tup xs, e => match e with
    | .Tuple es _ _ => chkXs sc xs es
    | _ => false
  | .cmp2 o p a b c, e => match e with
    | .Compare l [op, pp] [r, q] _ => decide (copOf o = some op) && decide (copOf p = some pp) && plain l && plain r && plain q && chkX sc a l && chkX sc b r && chkX sc c q
    | _ => false
  | .and a b, e => match e with
    | .BoolOp .And [v, w] _ => chkX sc a v && chkX sc b w
    | .BoolOp .And (v :: w :: u :: rest) pos => chkX sc a v && chkX sc b (.BoolOp .And (w :: u :: rest) pos)
    | _ => false
  | .or a b, e => match e with
    | .BoolOp .Or [v, w] _ => chkX sc a v && chkX sc b w
    | .BoolOp .Or (v :: w :: u :: rest) pos => chkX sc a v && chkX sc b (.BoolOp .Or (w :: u :: rest) pos)
    | _ => false
  | .not a, e => match e with
    | .UnaryOp .Not e _ => chkX sc a e
    | _ => false
  | .ite t a b, e => match e with
    | .IfExp c l r _ => chkT sc t c && chkX sc a l && chkX sc b r
    | _ => false
  | .sl3 a b c, e => match e with
    | .Subscript l (.Slice (some r) (some q) none _) _ => plain l && plain r && plain q && chkX sc a l && chkX sc b r && chkX sc c q
    | _ => false
  | .bm m o xs, e => match e with
    | .Call (.Attribute l mm ap) (a :: as) [] cp => decide (BM.name m = mm) && (ap.endLine == cp.line) && plainA l && decide (as.length < 20) && chkX sc o l && chkXs sc xs (a :: as)
    | _ => false
  | .call f ms xs, e => match e with
    | .Call (.Name x _) (e :: es) [] _ => (match Tb.fs[f]? with | some I => decide (I.name = x) && decide (I.ms = ms) && decide (I.own = .no) | none => false) && glB sc x && chkXs sc xs (e :: es)
    | _ => false
  | .fld cs f o, e => match e with
    | .Attribute l g _ => decide (f = g) && plainA l && fldOk Tb cs f && chkX sc o l
    | _ => false
  | .con cs f d o, e => match e with
    | .Attribute l g _ => decide (f = g) && plainA l && conOk Tb cs f d && chkX sc o l
    | _ => false
  | .dget a b, e => match e with
    | .Subscript l r _ => plain r && chkX sc a l && chkX sc b r
    | _ => false
  | .meth m cs ms o xs, e => match e with
    | .Call (.Attribute l mm ap) [] [] cp => decide (m = mm) && (ap.endLine == cp.line) && plainA l && methOk Tb m cs && chkX sc o l && chkXs sc xs []
    | .Call (.Attribute l mm ap) (a :: as) [] cp => decide (m = mm) && (ap.endLine == cp.line) && plainA l && decide (as.length < 20) && methOk Tb m cs && chkX sc o l && chkXs sc xs (a :: as)
    | _ => false
  | .scall f ms xs, e => match e with
    | .Call (.Attribute (.Name C _) mm ap) (a :: as) [] cp => (ap.endLine == cp.line) && decide (as.length < 20) && glB sc C && statOk Tb f C mm && chkXs sc xs (a :: as)
    | _ => false
  | .make c f xs, e => match e with
    | .Call (.Name C _) (a :: as) [] _ => glB sc C && makeOk Tb c f C && chkXs sc xs (a :: as)
    | _ => false
  | .mut m i xs, e => match e with
    | .Call (.Attribute (.Name x _) mm ap) [] [] cp => decide (Mu.name m = mm) && (ap.endLine == cp.line) && nameB N sc i x && (match m with | .pop => true | .reverse => true | .clear => true | _ => false) && chkXs sc xs []
    | .Call (.Attribute (.Name x _) mm ap) (e :: es) [] cp => decide (Mu.name m = mm) && (ap.endLine == cp.line) && nameB N sc i x && (match m with | .pop => false | .reverse => false | .clear => false | _ => true) && decide (es.length < 20) && chkXs sc xs (e :: es)
    | _ => false
  | .comp own tg it t x, e => match e with
    | .ListComp elt [⟨tge, ite, [], 0⟩] scope _ => blkC N sc scope own && plain ite && chkIt sc it ite tge && chkTg N (relS scope sc) (fun x => scope.names.lookup x == some .cell) tg tge && decide (tgIn (own.map (·.2)) tg = true) && t.isTru && chkX (relS scope sc) x elt
    | .ListComp elt [⟨tge, ite, [c], 0⟩] scope _ => blkC N sc scope own && plain ite && chkIt sc it ite tge && chkTg N (relS scope sc) (fun x => scope.names.lookup x == some .cell) tg tge && decide (tgIn (own.map (·.2)) tg = true) && chkT (relS scope sc) t c && chkX (relS scope sc) x elt
    | _ => false
  | .comp2 own vs1 tg it t tg1 it1 t1 x, e => match e with
    | .ListComp elt [⟨tge, ite, ifs, 0⟩, ⟨tge1, ite1, ifs1, 0⟩] scope _ => blkC N sc scope own && plain ite && plain ite1 && decide (∀ i ∈ vs1, i ∈ own.map (·.2)) && chkIt sc it ite tge && chkTg N (relS scope sc) (fun x => scope.names.lookup x == some .cell) tg tge && decide (tgIn (own.map (·.2)) tg = true) && (match ifs with | [] => t.isTru | [c] => chkT (relS scope sc) t c | _ => false) &&
        chkIt (relS scope sc) it1 ite1 tge1 && chkTg N (relS scope sc) (fun x => scope.names.lookup x == some .cell) tg1 tge1 && decide (tgIn vs1 tg1 = true) && (match ifs1 with | [] => t1.isTru | [c] => chkT (relS scope sc) t1 c | _ => false) && chkX (relS scope sc) x elt
    | _ => false
def chkXs (sc : Scope) : XS → List Expr → Bool
  | .nil, es => match es with
    | [] => true
    | _ => false
  | .cons x xs, es => match es with
    | e :: es => plain e && chkX sc x e && chkXs sc xs es
    | _ => false
def chkT (sc : Scope) : T → Expr → Bool
  | .tru, _ => false
  | .x e, f => plainT f && chkX sc e f
  | .isN n a, f => match f with
    | .Compare l [.Is] [.Constant .none _ _] _ => !n && chkX sc a l
    | .Compare l [.IsNot] [.Constant .none _ _] _ => n && chkX sc a l
    | _ => false
  | .cmp o a b, f => match f with
    | .Compare l [p] [r] _ => decide (copOf o = some p) && plain r && chkX sc a l && chkX sc b r
    | _ => false
  | .cmp2 o p a b c, f => match f with
    | .Compare l [op, pp] [r, q] _ => decide (copOf o = some op) && decide (copOf p = some pp) && plain r && plain q && chkX sc a l && chkX sc b r && chkX sc c q
    | _ => false
  | .and a b, f => match f with
    | .BoolOp .And [v, w] _ => chkT sc a v && chkT sc b w
    | .BoolOp .And (v :: w :: u :: rest) pos => chkT sc a v && chkT sc b (.BoolOp .And (w :: u :: rest) pos)
    | _ => false
  | .or a b, f => match f with
    | .BoolOp .Or [v, w] _ => chkT sc a v && chkT sc b w
    | .BoolOp .Or (v :: w :: u :: rest) pos => chkT sc a v && chkT sc b (.BoolOp .Or (w :: u :: rest) pos)
    | _ => false
  | .not a, f => match f with
    | .UnaryOp .Not e _ => chkT sc a e
    | _ => false
def chkIt (sc : Scope) : It → Expr → Expr → Bool
  | .seq x, e, _ => chkX sc x e
  | .rng x, e, _ => match e with
    | .Call (.Name f _) [a] [] _ => decide (f = "range") && glT Tb sc f && plain a && chkX sc x a
    | _ => false
  | .rng2 x y, e, _ => match e with
    | .Call (.Name f _) [a, b] [] _ => decide (f = "range") && glT Tb sc f && plain a && plain b && chkX sc x a && chkX sc y b
    | _ => false
  | .enum x, e, tg => match e with
    | .Call (.Name f _) [a] [] _ => decide (f = "enumerate") && glT Tb sc f && isTup tg && plain a && chkX sc x a
    | _ => false
  | .enums x k, e, tg => match e with
    | .Call (.Name f _) [a] [⟨some s, .Constant (.int j) _ _, _⟩] _ => decide (f = "enumerate") && decide (s = "start") && decide (j = k) && decide (0 ≤ k ∧ k < 1000) && glT Tb sc f && isTup tg && plain a && chkX sc x a
    | _ => false
  | .zip x y, e, tg => match e with
    | .Call (.Name f _) [a, b] [] _ => decide (f = "zip") && glT Tb sc f && isTup tg && plain a && plain b && chkX sc x a && chkX sc y b
    | _ => false
  | .rev x, e, _ => match e with
    | .Call (.Name f _) [a] [] _ => decide (f = "reversed") && glT Tb sc f && plain a && chkX sc x a
    | _ => false
end
end
end Den
set_option Elab.async false
set_option linter.all false
set_option maxRecDepth 100000
set_option autoImplicit false
set_option maxHeartbeats 4000000
namespace Den
open PySem PySem.Spec PyProof.Rows L2
/-! ### syntax -/
theorem star_of {e : Expr} (h : plain e = true) (es : List Expr) (env : PySem.Env) : starEach (e :: es) env = (false, eval e env) :: starEach es env := by
  cases e <;> first | rfl | (exact Bool.noConfusion h)
theorem behind_of {e : Expr} (h : plain e = true) (op : CmpOp) : behindInMarks op e = false := by
  cases e <;> first | rfl | (exact Bool.noConfusion h)
theorem last_of {a b : Expr} (h : plain b = true) (op op' : CmpOp) : lastMarks [op, op'] [a, b] = false := by
  cases b <;> first | (with_unfolding_all rfl) | (exact Bool.noConfusion h)
theorem ix_of {e : Expr} (h : plain e = true) : PlainIx e := fun _ _ => by
  cases e <;> first | rfl | (exact Bool.noConfusion h)
theorem folded_of {e : Expr} (h : plain e = true) (env : PySem.Env) (x : Value) : foldedSetIterable e env x = pure x := by
  cases e <;> first | rfl | (exact Bool.noConfusion h)
theorem true_of {e : Expr} (h : plainT e = true) (env : PySem.Env) (whole : Sem Value) : isTrue e env whole = (do let v ← whole; standAt e.pos; holding [v] (truthy v)) := by
  cases e with
  | UnaryOp op x pos => cases op <;> first | rfl | (exact Bool.noConfusion h)
  | BoolOp => exact Bool.noConfusion h
  | IfExp => exact Bool.noConfusion h
  | Compare => exact Bool.noConfusion h
  | _ => rfl
theorem attr_of {e : Expr} (h : plainA e = true) (x : Str) (env : PySem.Env) (w : Sem Value) : attributeBase e x env w = w := by
  cases e with
  | Call f as ks pos =>
    cases as with
    | cons _ _ => cases f <;> rfl
    | nil => cases ks with
      | nil => exact Bool.noConfusion h
      | cons _ _ => cases f <;> rfl
  | _ => rfl
/-- no star among them -/
def plains : List Expr → Bool
  | [] => true
  | e :: es => plain e && plains es
theorem any_of {pos : Pos} {env : PySem.Env} : ∀ {es : List Expr}, plains es = true → (backTo pos (starEach es env)).any (·.1) = false
  | [], _ => rfl
  | e :: es, h => by
    unfold plains at h
    rw [Bool.and_eq_true] at h
    rw [star_of h.1]
    show (false || (backTo pos (starEach es env)).any (·.1)) = false
    rw [any_of h.2]; rfl
theorem all_of {pos : Pos} {env : PySem.Env} : ∀ {es : List Expr}, plains es = true → (backTo pos (starEach es env)).all (fun x => !x.1) = true
  | [], _ => rfl
  | e :: es, h => by
    unfold plains at h
    rw [Bool.and_eq_true] at h
    rw [star_of h.1]
    show (true && (backTo pos (starEach es env)).all (fun x => !x.1)) = true
    rw [all_of h.2]; rfl
theorem okName_dbg {x : Str} (h : okName x = true) : (x == ("__debug__" : Str)) = false ∧ (x == ("__classdict__" : Str)) = false ∧ x ≠ "__name__" := by
  unfold okName at h
  simp only [Bool.and_eq_true, Bool.not_eq_true'] at h
  exact ⟨h.1.1, h.1.2, fun e => by rw [e] at h; exact absurd h.2 (by decide)⟩
/-! ### the context -/
/-- a staticmethod of the class at C: its def at f -/
structure StatM (K : PySem.W.Frag) (C : Addr) (m : Str) (f : Addr) : Prop where
  ga : PySem.W.specialIn K (.ref C) "__getattribute__" = some (some (.builtin "type.__getattribute__"))
  at_ : ∃ (mc : Value) (p : Addr), PySem.W.readsIn K C mc = true ∧ PySem.W.findCls K (.ref C) mc m = some (.get (.builtin "staticmethod.__get__") (.ref p) .none (.ref C)) ∧ ∃ rest, PySem.W.recIn K p "staticmethod" = some (.ref f :: rest)
/-- where a def of the text stands -/
def LocOf (K : PySem.W.Frag) (mg : Str → Option Value) (CA : Nat → Option Addr) : Ow → Str → Addr → Prop
  | .no, x, f => mg x = some (.ref f)
  | .meth c m, _, f => ∃ C, CA c = some C ∧ Meth K C m f
  | .stat c m, _, f => ∃ C, CA c = some C ∧ StatM K C m f
def IOk (P : Program) (w : World) (K : PySem.W.Frag) (mg : Str → Option Value) (base : Heap) (CA : Nat → Option Addr) (I : FI) (k : Nat) (sp : Sp) : Prop :=
  ∃ (f : Addr) (fd : FuncData), LocOf K mg CA I.own I.name f ∧ PySem.W.keepIn K (.ref f) = true ∧ (∃ oc od osl, K.lookup f = some ⟨oc, od, .func fd, osl⟩) ∧ Binds K fd I.ps [] ∧ FnOk P w K mg base (L2.CX P w) k f fd I.ps sp
theorem IOk.at {P : Program} {w : World} {K : PySem.W.Frag} {mg : Str → Option Value} {base : Heap} {CA : Nat → Option Addr} {I : FI} {k : Nat} {sp : Sp} (h : IOk P w K mg base CA I k sp) (n : I.own = .no) : My.FOk P w K mg base (L2.CX P w) I.name I.ps k sp := by
  obtain ⟨f, fd, a, b, c, d, e⟩ := h
  rw [n] at a
  exact ⟨f, fd, a, b, c, d, e⟩
structure ClsOk (K : PySem.W.Frag) (mg : Str → Option Value) (C : Addr) (I : CInfo) : Prop where
  cl : Cls K C
  fl : ∀ f, I.flds.contains f = true → NoAttr K C f
  co : ∀ f d, I.cons.lookup f = some d → ∃ v u, Con K C f v u ∧ d.v = some v
  g : mg I.name = some (.ref C)
  mks : I.mks = true → PySem.W.makesIn K C = true ∧ PySem.W.keepIn K (.ref C) = true
structure TabOk (P : Program) (w : World) (K : PySem.W.Frag) (mg : Str → Option Value) (base : Heap) (Tb : Tab) (n : Nat) (E : Env) (CA : Nat → Option Addr) : Prop where
  fns : ∀ (f : Nat) (I : FI), Tb.fs[f]? = some I → IOk P w K mg base CA I (2 * n) (spF K CA (E.cl f))
  cls : ∀ (c : Nat) (I : CInfo), Tb.cls.lookup c = some I → ∃ C, CA c = some C ∧ ClsOk K mg C I
  bi : ∀ x, Tb.bi.contains x = true → mg x = none
  cs : ∀ x d, Tb.cs.lookup x = some d → ∃ v u, mg x = some u ∧ RelV v u ∧ d.v = some v
structure Ctx (X : Cx) (Tb : Tab) (N : List Str) (sc : Scope) (fnb : Str → Bool) (n : Nat) (E : Env) (CA : Nat → Option Addr) (W : WX) : Prop where
  hN : X.N = N
  nd : N.Nodup
  hsc : X.env.scope = sc
  calm : X.calm = true
  tk : Takes X W
  room : Room (2 * n + 1) X.A
  hfn : ∀ x, X.fn x = fnb x
  tab : TabOk X.prog X.w X.K X.mg X.base Tb n E CA
section
variable {X : Cx} {Tb : Tab} {N : List Str} {sc : Scope} {fnb : Str → Bool} {n : Nat} {E : Env} {CA : Nat → Option Addr} {W : WX}
theorem Ctx.gl (C : Ctx X Tb N sc fnb n E CA W) {x : Str} (h : glB sc x = true) : Gl X x ∧ okName x = true := by
  unfold glB at h
  rw [Bool.and_eq_true, decide_eq_true_eq] at h
  exact ⟨by show X.env.scope.names.lookup x = some .globalImplicit; rw [C.hsc]; exact h.2, h.1⟩
theorem Ctx.glT (C : Ctx X Tb N sc fnb n E CA W) {x : Str} (h : glT Tb sc x = true) : Gl X x ∧ okName x = true ∧ X.mg x = none := by
  unfold Den.glT at h
  rw [Bool.and_eq_true] at h
  obtain ⟨a, b⟩ := C.gl h.1
  exact ⟨a, b, C.tab.bi x h.2⟩
theorem Ctx.vis (C : Ctx X Tb N sc fnb n E CA W) {i : Nat} {x : Str} (h : nameB N sc i x = true) : X.N[i]? = some x ∧ Vis X.env.scope x ∧ okName x = true := by
  unfold nameB visB at h
  rw [Bool.and_eq_true, Bool.and_eq_true, decide_eq_true_eq] at h
  refine ⟨by rw [C.hN]; exact h.2, ?_, h.1.1⟩
  rw [C.hsc]
  unfold Vis
  have := h.1.2
  split at this <;> first | (rename_i q; exact .inl q) | (rename_i q; exact .inr (.inl q)) | (rename_i q; exact .inr (.inr q)) | cases this
/-! ### expressions -/
theorem s_name (C : Ctx X Tb N sc fnb n E CA W) {i : Nat} {x : Str} {pos : Pos} (h : nameB N sc i x = true) : PE X (.Name x pos) (tVar i) := by
  obtain ⟨a, b, c⟩ := C.vis h
  obtain ⟨d1, d2, _⟩ := okName_dbg c
  exact pe_var a b d1 d2
theorem s_var (C : Ctx X Tb N sc fnb n E CA W) {i : Nat} {x : Str} {pos : Pos} (h : nameB N sc i x = true) : PE X (.Name x pos) (denE X.K CA W (evX E (.var i))) := by
  refine (s_name C h).imp fun σ H Q ⟨F, G, s, hK, hC, R, P⟩ => ?_
  have P : PostE F G σ W Q (match s.move i with | some (d, s1) => .ok (.shr d) s1 | none => .bad) := P
  cases hm : s.move i with
  | none => rw [hm] at P; exact P.elim
  | some p =>
    obtain ⟨d, s1⟩ := p
    rw [hm] at P
    obtain ⟨G', v, x1, R1, e1, r1⟩ := R.move hm
    exact ⟨v, e1, P v G' H x1 R1 (Res.shr r1)⟩
theorem den_c {d : D} {v : V} {m : S → Out SV} (hd : d.v = some v) (hm : ∀ s, m s = .ok (.shr d) s) {σ : L2.St} {H : Hp} {Q : VK} (h : denE X.K CA W m σ H Q) : tC v σ H Q := by
  obtain ⟨F, G, s, hK, hC, R, P⟩ := h
  rw [hm] at P
  exact P v G H (Evl.Ex.refl _) R (Res.shr (Rep.ofV hd))
theorem s_glo (C : Ctx X Tb N sc fnb n E CA W) {x : Str} {d : D} {pos : Pos} (h : glB sc x = true) (hl : Tb.cs.lookup x = some d) : PE X (.Name x pos) (denE X.K CA W (evX E (.glo x d))) := by
  obtain ⟨g, o⟩ := C.gl h
  obtain ⟨v, u, hm, r, hv⟩ := C.tab.cs x d hl
  exact (pe_glob g hm r (okName_dbg o).1).imp fun σ H Q h => den_c hv (fun _ => rfl) h
/-- an operand -/
theorem pe_p (C : Ctx X Tb N sc fnb n E CA W) {x : Den.X} {e : Expr} (hc : chkX Tb N sc x e = true) (h : PE X e (denE X.K CA W (evX E x))) : PE X e (denP X.K CA W (evP E x)) := by
  have gen : (∀ s, evP E x s = (evX E x s).bind fun v s1 => match v.d with | some d => .ok (.val d) s1 | none => .bad) → PE X e (denP X.K CA W (evP E x)) := fun he => by
    refine h.imp fun σ H Q ⟨F, G, s, hK, hC, R, P⟩ => ⟨F, G, s, hK, hC, R, ?_⟩
    rw [he] at P
    cases hm : evX E x s with
    | ok v s1 =>
      rw [hm] at P
      intro w G1 H1 x1 R1 res
      have P : PostP F G σ W Q (match v.d with | some d => .ok (.val d) s1 | none => .bad) := P
      cases hd : v.d with
      | none => rw [hd] at P; exact P.elim
      | some d =>
        rw [hd] at P
        obtain ⟨G2, x2, R2, r2⟩ := res.freeze R1 hd
        exact P w G2 H1 (x1.trans x2) R2 r2
    | ex c p s1 => rw [hm] at P; exact P
    | bad => rw [hm] at P; exact P
  cases x with
  | var i =>
    unfold chkX at hc
    split at hc
    · refine (s_name C hc).imp fun σ H Q ⟨F, G, s, hK, hC, R, P⟩ => ?_
      have P : PostP F G σ W Q (match s.slot i with | some _ => .ok (.at i) s | none => .bad) := P
      cases hs : s.slot i with
      | none => rw [hs] at P; exact P.elim
      | some y =>
        rw [hs] at P
        obtain ⟨v, e1, _⟩ := R.slots i y (slot_env hs)
        exact ⟨v, e1, P v G H (Evl.Ex.refl _) R e1⟩
    · cases hc
  | _ => exact gen fun _ => rfl
theorem op_bin (C : Ctx X Tb N sc fnb n E CA W) {o : Op} {p : Operator} {l r : Expr} {pos : Pos} {a b : Den.X} (ho : bopOf o = some p) (h1 : PE X l (denP X.K CA W (evP E a))) (h2 : PE X r (denP X.K CA W (evP E b))) :
    PE X (.BinOp l p r pos) (denE X.K CA W (evX E (.op o (.cons a (.cons b .nil))))) := by
  have fin : OpR X (binaryOp p) (fun x y => rOp X.K CA o [x, y]) → PE X (.BinOp l p r pos) (denE X.K CA W (evX E (.op o (.cons a (.cons b .nil))))) := fun rule => (pe_op rule h1 h2).imp fun σ H Q h => chain2 h
  cases o <;> first | (cases ho; done) | skip
  all_goals cases ho
  · exact fin o_add
  · exact fin o_sub
  · exact fin o_mul
  · exact fin o_fdiv
  · exact fin o_mod
  · exact fin o_pow
  · exact fin o_band
  · exact fin o_shr
theorem cmpR (C : Ctx X Tb N sc fnb n E CA W) {o : Op} {p : CmpOp} (ho : copOf o = some p) : OpR X (compareOp p) (fun x y => rOp X.K CA o [x, y]) := by
  cases o <;> first | (cases ho; done) | skip
  all_goals cases ho
  · exact o_eq C.room.units
  · exact o_ne C.room.units
  · exact o_lt C.room.units
  · exact o_le C.room.units
  · exact o_gt C.room.units
  · exact o_ge C.room.units
  · exact o_isin (by have := C.room.un; omega)
  · exact o_notin (by have := C.room.un; omega)
theorem op_cmp (C : Ctx X Tb N sc fnb n E CA W) {o : Op} {p : CmpOp} {l r : Expr} {pos : Pos} {a b : Den.X} (ho : copOf o = some p) (pr : plain r = true) (h1 : PE X l (denP X.K CA W (evP E a))) (h2 : PE X r (denP X.K CA W (evP E b))) :
    PE X (.Compare l [p] [r] pos) (denE X.K CA W (evX E (.op o (.cons a (.cons b .nil))))) :=
  (pe_cmpR (cmpR C ho) h1 h2 (behind_of pr p)).imp fun σ H Q h => chain2 h
theorem op_isN1 {l : Expr} {k : Nat} {pos pos' : Pos} {a : Den.X} (h1 : PE X l (denP X.K CA W (evP E a))) :
    PE X (.Compare l [.Is] [.Constant .none k pos'] pos) (denE X.K CA W (evX E (.op .isN (.cons a .nil)))) := by
  refine (pe_cmpR (o_isN (CA := CA)) h1 pe_non (by rfl)).imp fun σ H Q h => ?_
  obtain ⟨F, G, s, hK, hC, R, P⟩ := chain1 h
  refine ⟨F, G, s, hK, hC, R, ?_⟩
  cases hm : evP E a s with
  | ok p s1 => rw [hm] at P; exact fun v G1 H1 x1 R1 pv => ⟨rfl, P v G1 H1 x1 R1 pv⟩
  | ex c p s1 => rw [hm] at P; exact P
  | bad => rw [hm] at P; exact P
theorem op_isnN1 {l : Expr} {k : Nat} {pos pos' : Pos} {a : Den.X} (h1 : PE X l (denP X.K CA W (evP E a))) :
    PE X (.Compare l [.IsNot] [.Constant .none k pos'] pos) (denE X.K CA W (evX E (.op .isnN (.cons a .nil)))) := by
  refine (pe_cmpR (o_isnN (CA := CA)) h1 pe_non (by rfl)).imp fun σ H Q h => ?_
  obtain ⟨F, G, s, hK, hC, R, P⟩ := chain1 h
  refine ⟨F, G, s, hK, hC, R, ?_⟩
  cases hm : evP E a s with
  | ok p s1 => rw [hm] at P; exact fun v G1 H1 x1 R1 pv => ⟨rfl, P v G1 H1 x1 R1 pv⟩
  | ex c p s1 => rw [hm] at P; exact P
  | bad => rw [hm] at P; exact P
theorem b0_max : bootBuiltins "max" = some (.builtin "max") := by decide +kernel
theorem b0_min : bootBuiltins "min" = some (.builtin "min") := by decide +kernel
theorem b0_divmod : bootBuiltins "divmod" = some (.builtin "divmod") := by decide +kernel
theorem op_fn (C : Ctx X Tb N sc fnb n E CA W) {o : Op} {f : Str} {e : Expr} {es : List Expr} {p pos : Pos} {xs : XS} (ho : fnOf o = some f) (hg : glT Tb sc f = true) (pl : plains (e :: es) = true) (ha : PA X (e :: es) (denPs X.K CA W (evPs E xs))) :
    PE X (.Call (.Name f p) (e :: es) [] pos) (denE X.K CA W (evX E (.op o xs))) := by
  obtain ⟨g, ok, m⟩ := C.glT hg
  obtain ⟨d1, d2, d3⟩ := okName_dbg ok
  unfold plains at pl
  rw [Bool.and_eq_true] at pl
  have finB : ∀ {id : String}, CallR X (.builtin id) (rOp X.K CA o) → bootBuiltins f = some (.builtin id) → PE X (.Call (.Name f p) (e :: es) [] pos) (denE X.K CA W (evX E (.op o xs))) := fun r hb =>
    (pe_callB r g m hb ha d3 d1 (star_of pl.1 _ _) (any_of pl.2)).imp fun σ H Q h => chainN h
  have finT : ∀ {id : String}, CallR X (.type id) (rOp X.K CA o) → bootBuiltins f = some (.type id) → PE X (.Call (.Name f p) (e :: es) [] pos) (denE X.K CA W (evX E (.op o xs))) := fun r hb =>
    (pe_callTy r g m hb ha d3 d1 (star_of pl.1 _ _) (any_of pl.2)).imp fun σ H Q h => chainN h
  cases o <;> first | (cases ho; done) | skip
  all_goals cases ho
  · exact finB o_len My.b0_len
  · exact finT o_int1 My.b0_int
  · exact finT o_str1 My.b0_str
  · exact finT o_tuple My.b0_tuple
  · exact finT o_list My.b0_list
  · exact finB o_sorted My.b0_sorted
  · exact finB (o_all C.calm) My.b0_all
  · exact finB (o_any C.calm) My.b0_any
  · exact finB (o_sum C.calm) My.b0_sum
  · exact finB (o_max2 C.calm) b0_max
  · exact finB (o_min2 C.calm) b0_min
  · exact finB o_divmod b0_divmod
/-- slices -/
def rSlS (K : PySem.W.Frag) (CA : Nat → Option Addr) : V → Option Int → Option Int → Hp → VK → Prop := fun v lo hi H Q => ∃ F G σ s d x, F.K = K ∧ F.CA = CA ∧ RS F G H σ s ∧ Pk F G H v d ∧ slS lo hi d = some x ∧ ∀ v G' H', Grow G H G' H' → Res F G' H' σ s v x → Q v H'
theorem o_sl : SlR X (rSlS X.K CA) := by
  intro pins s σ H x v vl vu lo hi sl Q I rx hs pl pu ⟨F, G, σ', s', d, r, hK, hC, R, p1, e, q⟩
  cases d <;> first | (cases e; done) | skip
  · cases e
    obtain ⟨p, vs, rfl, h1, r1⟩ := p1.lst R.gh
    exact sl_list pins s σ H _ v vl vu lo hi sl Q I rx hs pl pu ⟨p, vs, rfl, SqL.of h1, finL R q (r1.cut lo hi)⟩
  · cases e
    have pg := p1.tupG
    obtain ⟨p, vs, rfl, h1, r1⟩ := p1.tup R.gh
    rw [hK] at h1
    refine sl_tupA pins s σ H _ v vl vu lo hi sl Q I rx hs pl pu ⟨p, vs, rfl, h1, fun hw => ?_, fun _ => finT R q (r1.cut lo hi)⟩
    rename_i ds
    have : cutG ds lo hi = ds := by
      unfold cutG
      rw [← r1.length, hw.1, hw.2, List.drop_zero, Nat.sub_zero, r1.length, List.take_length]
    rw [this] at q
    exact fin0 R q pg
theorem op_sl0 (C : Ctx X Tb N sc fnb n E CA W) {l : Expr} {p2 pos : Pos} {a : Den.X} (h1 : PE X l (denP X.K CA W (evP E a))) : PE X (.Subscript l (.Slice none none none p2) pos) (denE X.K CA W (evX E (.op (.sl false false) (.cons a .nil)))) := by
  refine (pe_slice (o_sl (CA := CA)) h1 po_none po_none).imp fun σ H Q h => ?_
  obtain ⟨F, G, s, hK, hC, R, P⟩ := chain1 h
  refine ⟨F, G, s, hK, hC, R, ?_⟩
  cases hm : evP E a s with
  | ok p s1 =>
    rw [hm] at P
    intro v G1 H1 x1 R1 pv
    obtain ⟨F', G', σ', s', ds, r, a1, a2, a3, a4, a5, a6⟩ := P v G1 H1 x1 R1 pv
    obtain ⟨d, rfl, p1⟩ := a4.inv1
    exact ⟨F', G', σ', s', d, r, a1, a2, a3, p1, a5, a6⟩
  | ex c p s1 => rw [hm] at P; exact P
  | bad => rw [hm] at P; exact P
theorem op_slR {F : Fr} {G0 G H : Hp} {σ : L2.St} {v w : V} {Q : VK} {b : Bool} (h : rOp X.K CA (if b = true then .sl true false else .sl false true) [v, w] H Q) : ∃ i, w = .int i ∧ rSlS X.K CA v (if b = true then some i else none) (if b = true then none else some i) H Q := by
  obtain ⟨F', G', σ', s', ds, r, a1, a2, a3, a4, a5, a6⟩ := h
  obtain ⟨d, d', rfl, p1, p2⟩ := a4.inv2
  cases b with
  | true =>
    cases d' <;> first | (cases a5; done) | skip
    exact ⟨_, p2.int, F', G', σ', s', d, r, a1, a2, a3, p1, a5, a6⟩
  | false =>
    cases d' <;> first | (cases a5; done) | skip
    exact ⟨_, p2.int, F', G', σ', s', d, r, a1, a2, a3, p1, a5, a6⟩
theorem op_sl1 (C : Ctx X Tb N sc fnb n E CA W) {l r : Expr} {p2 pos : Pos} {a b : Den.X} (h1 : PE X l (denP X.K CA W (evP E a))) (h2 : PE X r (denP X.K CA W (evP E b))) : PE X (.Subscript l (.Slice (some r) none none p2) pos) (denE X.K CA W (evX E (.op (.sl true false) (.cons a (.cons b .nil))))) := by
  refine (pe_slice (o_sl (CA := CA)) h1 (po_some h2) po_none).imp fun σ H Q h => ?_
  obtain ⟨F, G, s, hK, hC, R, P⟩ := chain2 h
  refine ⟨F, G, s, hK, hC, R, ?_⟩
  cases hm : evP E a s with
  | ok p s1 =>
    rw [hm] at P
    intro v G1 H1 x1 R1 pv
    obtain ⟨F', G', s', a1, a2, a3, P'⟩ := P v G1 H1 x1 R1 pv
    refine ⟨F', G', s', a1, a2, a3, ?_⟩
    cases hm2 : evP E b s' with
    | ok p2 s2 =>
      rw [hm2] at P'
      exact fun w G2 H2 x2 R2 pv2 => op_slR (b := true) (F := F) (G0 := G) (G := G) (H := H2) (σ := σ) (P' w G2 H2 x2 R2 pv2)
    | ex c p s1 => rw [hm2] at P'; exact P'
    | bad => rw [hm2] at P'; exact P'
  | ex c p s1 => rw [hm] at P; exact P
  | bad => rw [hm] at P; exact P
theorem op_sl2 (C : Ctx X Tb N sc fnb n E CA W) {l r : Expr} {p2 pos : Pos} {a b : Den.X} (h1 : PE X l (denP X.K CA W (evP E a))) (h2 : PE X r (denP X.K CA W (evP E b))) : PE X (.Subscript l (.Slice none (some r) none p2) pos) (denE X.K CA W (evX E (.op (.sl false true) (.cons a (.cons b .nil))))) := by
  refine (pe_slice (o_sl (CA := CA)) h1 po_none (po_some h2)).imp fun σ H Q h => ?_
  obtain ⟨F, G, s, hK, hC, R, P⟩ := chain2 h
  refine ⟨F, G, s, hK, hC, R, ?_⟩
  cases hm : evP E a s with
  | ok p s1 =>
    rw [hm] at P
    intro v G1 H1 x1 R1 pv
    obtain ⟨F', G', s', a1, a2, a3, P'⟩ := P v G1 H1 x1 R1 pv
    refine ⟨F', G', s', a1, a2, a3, ?_⟩
    cases hm2 : evP E b s' with
    | ok p2 s2 =>
      rw [hm2] at P'
      exact fun w G2 H2 x2 R2 pv2 => op_slR (b := false) (F := F) (G0 := G) (G := G) (H := H2) (σ := σ) (P' w G2 H2 x2 R2 pv2)
    | ex c p s1 => rw [hm2] at P'; exact P'
    | bad => rw [hm2] at P'; exact P'
  | ex c p s1 => rw [hm] at P; exact P
  | bad => rw [hm] at P; exact P
theorem op_sl3 (C : Ctx X Tb N sc fnb n E CA W) {l r q : Expr} {p2 pos : Pos} {a b c : Den.X} (h1 : PE X l (denP X.K CA W (evP E a))) (h2 : PE X r (denP X.K CA W (evP E b))) (h3 : PE X q (denP X.K CA W (evP E c))) :
    PE X (.Subscript l (.Slice (some r) (some q) none p2) pos) (denE X.K CA W (evX E (.sl3 a b c))) := by
  refine (pe_slice (o_sl (CA := CA)) h1 (po_some h2) (po_some h3)).imp fun σ H Q ⟨F, G, s, hK, hC, R, P⟩ => ⟨F, G, s, hK, hC, R, ?_⟩
  have P : PostE F G σ W Q ((evP E a s).bind fun p s1 => (evP E b s1).bind fun q s2 => match s2.look q with
    | some (.int i) => (evP E c s2).bind fun r s3 => match s3.look p, s3.look r with
      | some d, some (.int j) => .opt s3 (slS (some i) (some j) d)
      | _, _ => .bad
    | _ => .bad) := P
  cases hm : evP E a s with
  | ok p s1 =>
    rw [hm] at P
    refine fun v G1 H1 x1 R1 pv => ⟨F, G1, s1, hK, hC, R1, ?_⟩
    rw [show ∀ f, (Out.ok p s1 : Out PV).bind f = f p s1 from fun _ => rfl] at P
    cases hm2 : evP E b s1 with
    | ok p2 s2 =>
      rw [hm2] at P
      intro w G2 H2 x2 R2 pv2
      rw [show ∀ f, (Out.ok p2 s2 : Out PV).bind f = f p2 s2 from fun _ => rfl] at P
      split at P
      · rename_i i hi
        refine ⟨i, (R2.look pv2 hi).int, F, G2, s2, hK, hC, R2, ?_⟩
        cases hm3 : evP E c s2 with
        | ok p3 s3 =>
          rw [hm3] at P
          intro u G3 H3 x3 R3 pv3
          rw [show ∀ f, (Out.ok p3 s3 : Out PV).bind f = f p3 s3 from fun _ => rfl] at P
          split at P
          · rename_i d j hd hj
            refine ⟨j, (R3.look pv3 hj).int, ?_⟩
            cases hs : slS (some i) (some j) d with
            | none => rw [hs] at P; exact P.elim
            | some x =>
              rw [hs] at P
              exact ⟨F, G3, σ, s3, d, x, hK, hC, R3, R3.look ((pv.mono x2).mono x3) hd, hs, fun v' G' H' g r => P v' G' H' (((x1.trans x2).trans x3).trans g.g) (R3.grow g) r⟩
          · exact P.elim
        | ex c p s1 => rw [hm3] at P; exact exW.mono (x1.trans x2) P
        | bad => rw [hm3] at P; exact P
      · exact P.elim
    | ex c p s1 => rw [hm2] at P; exact exW.mono x1 P
    | bad => rw [hm2] at P; exact P
  | ex c p s1 => rw [hm] at P; exact P
  | bad => rw [hm] at P; exact P
end
end Den
set_option Elab.async false
set_option linter.all false
set_option maxRecDepth 100000
set_option autoImplicit false
set_option maxHeartbeats 4000000
namespace Den
open PySem PySem.Spec PyProof.Rows L2
section
variable {X : Cx} {Tb : Tab} {N : List Str} {sc : Scope} {fnb : Str → Bool} {n : Nat} {E : Env} {CA : Nat → Option Addr} {W : WX}
theorem op_rev (C : Ctx X Tb N sc fnb n E CA W) {l : Expr} {k : Nat} {p1 p2 p3 pos : Pos} {a : Den.X} (h1 : PE X l (denP X.K CA W (evP E a))) :
    PE X (.Subscript l (.Slice none none (some (.UnaryOp .USub (.Constant (.int 1) k p1) p2)) p3) pos) (denE X.K CA W (evX E (.op .rev (.cons a .nil)))) := by
  refine (pe_revL h1).imp fun σ H Q h => ?_
  obtain ⟨F, G, s, hK, hC, R, P⟩ := chain1 h
  refine ⟨F, G, s, hK, hC, R, ?_⟩
  cases hm : evP E a s with
  | ok p s1 =>
    rw [hm] at P
    intro v G1 H1 x1 R1 pv
    obtain ⟨F', G', σ', s', ds, r, a1, a2, a3, a4, a5, a6⟩ := P v G1 H1 x1 R1 pv
    obtain ⟨d, rfl, p1⟩ := a4.inv1
    cases d <;> first | (cases a5; done) | skip
    cases a5
    obtain ⟨p, vs, rfl, h1, r1⟩ := p1.lst a3.gh
    exact ⟨p, vs, rfl, SqL.of h1, finL a3 a6 r1.reverse⟩
  | ex c p s1 => rw [hm] at P; exact P
  | bad => rw [hm] at P; exact P
theorem op_ix (C : Ctx X Tb N sc fnb n E CA W) {l r : Expr} {pos : Pos} {a b : Den.X} (pr : plain r = true) (h1 : PE X l (denP X.K CA W (evP E a))) (h2 : PE X r (denP X.K CA W (evP E b))) :
    PE X (.Subscript l r pos) (denE X.K CA W (evX E (.op .ix (.cons a (.cons b .nil))))) :=
  (pe_ix (o_ix (CA := CA)) h1 h2 (ix_of pr)).imp fun σ H Q h => chain2 h
theorem op_neg (C : Ctx X Tb N sc fnb n E CA W) {l : Expr} {pos : Pos} {a : Den.X} (h1 : PE X l (denP X.K CA W (evP E a))) : PE X (.UnaryOp .USub l pos) (denE X.K CA W (evX E (.op .neg (.cons a .nil)))) :=
  (pe_un (o_neg (CA := CA)) h1).imp fun σ H Q h => chain1 h
theorem reps_rg (K : PySem.W.Frag) (CA : Nat → Option Addr) (G : Hp) : ∀ ks : List Nat, Reps K CA G (ks.map fun k : Nat => V.int (0 + (k : Nat))) (ks.map fun k : Nat => D.int k)
  | [] => .nil
  | k :: ks => .cons (by show Rep K CA G (V.int (0 + (k : Int))) (.int k); rw [Int.zero_add]; constructor) (reps_rg K CA G ks)
theorem op_lrg (C : Ctx X Tb N sc fnb n E CA W) {l : Expr} {p q pos pos' : Pos} {a : Den.X} (pl : plain l = true) (hg : glT Tb sc "list" = true) (hr : glT Tb sc "range" = true) (h1 : PE X l (denP X.K CA W (evP E a))) :
    PE X (.Call (.Name "list" p) [.Call (.Name "range" q) [l] [] pos'] [] pos) (denE X.K CA W (evX E (.op .lrg (.cons a .nil)))) := by
  obtain ⟨g, _, m⟩ := C.glT hg
  obtain ⟨g', _, m'⟩ := C.glT hr
  refine (pe_listRg C.calm g m (prg_1 g' m' h1 (star_of pl _ _))).imp fun σ H Q h => ?_
  obtain ⟨F, G, s, hK, hC, R, P⟩ := chain1 h
  refine ⟨F, G, s, hK, hC, R, ?_⟩
  cases hm : evP E a s with
  | ok p s1 =>
    rw [hm] at P
    intro v G1 H1 x1 R1 pv
    obtain ⟨F', G', σ', s', ds, r, a1, a2, a3, a4, a5, a6⟩ := P v G1 H1 x1 R1 pv
    obtain ⟨d, rfl, p1⟩ := a4.inv1
    cases d <;> first | (cases a5; done) | skip
    rename_i i
    obtain rfl := p1.int
    have a5 : (if -1000000 ≤ i ∧ i ≤ 1000000 then some (SV.own (.lst ((List.range i.toNat).map fun k : Nat => D.int k))) else none) = some r := a5
    by_cases hb : -1000000 ≤ i ∧ i ≤ 1000000
    · rw [if_pos hb] at a5
      cases a5
      refine ⟨i, rfl, ⟨by omega, by omega, by omega, by omega, by omega⟩, ?_⟩
      refine finL a3 a6 ?_
      have := reps_rg F'.K F'.CA G' (List.range i.toNat)
      unfold rgV
      rw [Int.sub_zero]
      exact this
    · rw [if_neg hb] at a5; cases a5
  | ex c p s1 => rw [hm] at P; exact P
  | bad => rw [hm] at P; exact P
theorem op_trg (C : Ctx X Tb N sc fnb n E CA W) {l : Expr} {p q pos pos' : Pos} {a : Den.X} (pl : plain l = true) (hg : glT Tb sc "tuple" = true) (hr : glT Tb sc "range" = true) (h1 : PE X l (denP X.K CA W (evP E a))) :
    PE X (.Call (.Name "tuple" p) [.Call (.Name "range" q) [l] [] pos'] [] pos) (denE X.K CA W (evX E (.op .trg (.cons a .nil)))) := by
  obtain ⟨g, _, m⟩ := C.glT hg
  obtain ⟨g', _, m'⟩ := C.glT hr
  refine (pe_tupRg C.calm g m (prg_1 g' m' h1 (star_of pl _ _))).imp fun σ H Q h => ?_
  obtain ⟨F, G, s, hK, hC, R, P⟩ := chain1 h
  refine ⟨F, G, s, hK, hC, R, ?_⟩
  cases hm : evP E a s with
  | ok p s1 =>
    rw [hm] at P
    intro v G1 H1 x1 R1 pv
    obtain ⟨F', G', σ', s', ds, r, a1, a2, a3, a4, a5, a6⟩ := P v G1 H1 x1 R1 pv
    obtain ⟨d, rfl, p1⟩ := a4.inv1
    cases d <;> first | (cases a5; done) | skip
    rename_i i
    obtain rfl := p1.int
    have a5 : (if -1000000 ≤ i ∧ i ≤ 1000000 then some (SV.shr (.tup ((List.range i.toNat).map fun k : Nat => D.int k))) else none) = some r := a5
    by_cases hb : -1000000 ≤ i ∧ i ≤ 1000000
    · rw [if_pos hb] at a5
      cases a5
      refine ⟨i, rfl, ⟨by omega, by omega, by omega, by omega, by omega⟩, ?_⟩
      refine finT a3 a6 ?_
      have := reps_rg F'.K F'.CA G' (List.range i.toNat)
      unfold rgV
      rw [Int.sub_zero]
      exact this
    · rw [if_neg hb] at a5; cases a5
  | ex c p s1 => rw [hm] at P; exact P
  | bad => rw [hm] at P; exact P
def tyName (d : D) (t : String) : Prop := match d with | .non => t = "NoneType" | .bl _ => t = "bool" | .int _ => t = "int" | .str _ => t = "str" | .lst _ => t = "list" | .tup _ => t = "tuple" | .dic _ _ => t = "dict" | .obj _ _ _ => True | .frl _ => True
/-- isinstance with a built-in class -/
theorem tyx_of {F : Fr} {G H : Hp} {σ : L2.St} {s : S} (R : RS F G H σ s) {v : V} {d : D} (h : Pk F G H v d) : ∃ t : String, tyName d t ∧
    (d.isObj = false → TyX F.K H v (.type t)) := by
  cases d with
  | non => exact ⟨_, rfl, fun _ => by rw [h.non]; exact .base .non⟩
  | bl b => exact ⟨_, rfl, fun _ => by rw [h.bl]; exact .base (.bl b)⟩
  | int b => exact ⟨_, rfl, fun _ => by rw [h.int]; exact .base (.int b)⟩
  | str b => exact ⟨_, rfl, fun _ => by rw [h.str]; exact .base (.str b)⟩
  | lst ds =>
    refine ⟨_, rfl, fun _ => ?_⟩
    obtain ⟨p, vs, rfl, h1, r1⟩ := h.lst R.gh
    exact .base (.lst h1)
  | tup ds =>
    refine ⟨_, rfl, fun _ => ?_⟩
    obtain ⟨p, vs, rfl, h1, r1⟩ := h.tup R.gh
    rcases h1 with (h1 | ⟨o, h1⟩) | ⟨o, its, m, h1, h2, _⟩
    · exact .base (.tup h1)
    · exact .fTuple h1
    · exact .kTuple h1 h2
  | dic ks ds =>
    refine ⟨_, rfl, fun _ => ?_⟩
    obtain ⟨p, kvs, rfl, h1, _⟩ := h.dic R.gh
    exact .base (.dK h1)
  | obj c ns vs => exact ⟨"object", trivial, fun h => Bool.noConfusion h⟩
  | frl xs => exact ⟨"object", trivial, fun h => Bool.noConfusion h⟩
theorem kit_isD {K : PySem.W.Frag} {d : D} {t : Str} {b : Bool} (h : isD d t = some b) (hd : d.isObj = false) : ∃ u : String, bootBuiltins t = some (.type u) ∧ ∀ t' : String, tyName d t' → PySem.W.kitOne K (.type t') (.type u) = some b := by
  unfold isD at h
  rw [hd, if_neg Bool.false_ne_true] at h
  split at h
  · rename_i e
    subst e
    refine ⟨"bool", My.b0_bool, fun t' ht => ?_⟩
    cases d <;> first | (cases h; cases ht; first | exact kit_ty (r := true) (by decide +kernel) | exact kit_ty (r := false) (by decide +kernel)) | exact Bool.noConfusion hd
  · split at h
    · rename_i e
      subst e
      refine ⟨"int", My.b0_int, fun t' ht => ?_⟩
      cases d <;> first | (cases h; cases ht; first | exact kit_ty (r := true) (by decide +kernel) | exact kit_ty (r := false) (by decide +kernel)) | exact Bool.noConfusion hd
    · split at h
      · rename_i e
        subst e
        refine ⟨"str", My.b0_str, fun t' ht => ?_⟩
        cases d <;> first | (cases h; cases ht; first | exact kit_ty (r := true) (by decide +kernel) | exact kit_ty (r := false) (by decide +kernel)) | exact Bool.noConfusion hd
      · split at h
        · rename_i e
          subst e
          refine ⟨"tuple", My.b0_tuple, fun t' ht => ?_⟩
          cases d <;> first | (cases h; cases ht; first | exact kit_ty (r := true) (by decide +kernel) | exact kit_ty (r := false) (by decide +kernel)) | exact Bool.noConfusion hd
        · split at h
          · rename_i e
            subst e
            refine ⟨"list", My.b0_list, fun t' ht => ?_⟩
            cases d <;> first | (cases h; cases ht; first | exact kit_ty (r := true) (by decide +kernel) | exact kit_ty (r := false) (by decide +kernel)) | exact Bool.noConfusion hd
          · cases h
theorem ty_boot {t : Str} (h : isTyName t = true) : ∃ u : String, bootBuiltins t = some (.type u) := by
  unfold isTyName at h
  simp only [Bool.or_eq_true, beq_iff_eq] at h
  rcases h with (((h | h) | h) | h) | h <;> subst h
  · exact ⟨_, My.b0_bool⟩
  · exact ⟨_, My.b0_int⟩
  · exact ⟨_, My.b0_str⟩
  · exact ⟨_, My.b0_tuple⟩
  · exact ⟨_, My.b0_list⟩
theorem op_isinst (C : Ctx X Tb N sc fnb n E CA W) {t : Str} {l : Expr} {p p' pos : Pos} {a : Den.X} (ht : isTyName t = true) (g1 : glT Tb sc "isinstance" = true) (g2 : glT Tb sc t = true) (pl : plain l = true) (h1 : PE X l (denP X.K CA W (evP E a))) :
    PE X (.Call (.Name "isinstance" p) [l, .Name t p'] [] pos) (denE X.K CA W (evX E (.op (.isinst [t]) (.cons a .nil)))) := by
  obtain ⟨ga, oa, ma⟩ := C.glT g1
  obtain ⟨gb, ob, mb⟩ := C.glT g2
  obtain ⟨d1, d2, d3⟩ := okName_dbg oa
  obtain ⟨e1, e2, e3⟩ := okName_dbg ob
  obtain ⟨u, hu⟩ := ty_boot ht
  have pt : PE X (.Name t p') (tC (.ty u)) := pe_bltn gb mb hu rfl e3 e1
  refine (pe_callB (call_isi (X := X)) ga ma My.b0_isinstance (pa_cons h1 (pa_cons pt pa_nil (star_of rfl _ _)) (star_of pl _ _)) d3 d1 (star_of pl _ _) (any_of rfl)).imp fun σ H Q h => ?_
  obtain ⟨F, G, s, hK, hC, R, P⟩ := chain1 h
  refine ⟨F, G, s, hK, hC, R, ?_⟩
  cases hm : evP E a s with
  | ok p s1 =>
    rw [hm] at P
    intro v G1 H1 x1 R1 pv
    obtain ⟨F', G', σ', s', ds, r, a1, a2, a3, a4, a5, a6⟩ := P v G1 H1 x1 R1 pv
    obtain ⟨d, rfl, p1⟩ := a4.inv1
    have a5 : blO (isD d t) = some r := a5
    cases hb : isD d t with
    | none => rw [hb] at a5; cases a5
    | some b =>
      rw [hb] at a5
      cases a5
      obtain ⟨t', ht', htx⟩ := tyx_of a3 p1
      have hd : d.isObj = false := by
        cases hq : d.isObj with
        | false => rfl
        | true => unfold isD at hb; rw [hq, if_pos rfl] at hb; cases hb
      obtain ⟨u', hu', hk⟩ := kit_isD (K := X.K) hb hd
      rw [hu] at hu'
      cases hu'
      rw [a1] at htx
      exact ⟨v, .ty u, _, _, b, rfl, .ty u, htx hd, hk t' ht', fin0 a3 a6 (.bl _)⟩
  | ex c p s1 => rw [hm] at P; exact P
  | bad => rw [hm] at P; exact P
theorem findIdx_spec {xs : List D} {d : D} {k : Nat} (h : (xs.findIdx? fun y => D.eqv y d) = some k) : ∃ z, xs[k]? = some z ∧ D.eqv z d = true ∧ ∀ (m : Nat) (z' : D), m < k → xs[m]? = some z' → D.eqv z' d = false := by
  obtain ⟨h1, h2, h3⟩ := List.findIdx?_eq_some_iff_getElem.mp h
  refine ⟨xs[k], List.getElem?_eq_getElem h1, h2, fun m z' hm e => ?_⟩
  obtain ⟨q1, q2⟩ := List.getElem?_eq_some_iff.mp e
  subst q2
  have := h3 m hm
  simpa using this
theorem pys_get : ∀ {xs : List D} {k : Nat}, (D.pys xs)[k]? = (xs[k]?).map D.py
  | [], _ => by simp [D.pys]
  | x :: xs, 0 => by simp [D.pys]
  | x :: xs, k + 1 => by simp only [D.pys, List.getElem?_cons_succ]; exact pys_get
theorem Reps.flat_get {K : PySem.W.Frag} {CA : Nat → Option Addr} {G : Hp} {vs : List V} {ds : List D} {k : Nat} {v : V} (h : Reps K CA G vs ds) (f : ds.all D.flat = true) (e : vs[k]? = some v) : ∃ d, ds[k]? = some d ∧ d.v = some v := by
  obtain ⟨d, e1, r1⟩ := h.getV e
  exact ⟨d, e1, r1.flatV (List.all_eq_true.mp f d (List.mem_of_getElem? e1))⟩
/-- a built-in method by values -/
def rBm (K : PySem.W.Frag) (CA : Nat → Option Addr) (m : BM) : V → List V → Hp → VK → Prop := fun x vs H Q => ∃ F G σ s d ds r, F.K = K ∧ F.CA = CA ∧ RS F G H σ s ∧ Pk F G H x d ∧ Pks F G H vs ds ∧ bmSem m d ds = some r ∧ ∀ v G' H', Grow G H G' H' → Res F G' H' σ s v r → Q v H'
theorem o_index (hu : X.A.units + 65 < cLine) : MtR X "list.index" (rBm X.K CA .index) := by
  intro pins s σ H x vs v us Q I rx rv ⟨F, G, σ', s', d, ds, r, hK, hC, R, p1, hp, e, q⟩
  have h1 : ds.length = 1 := by
    match ds, e with
    | [_], _ => rfl
  obtain ⟨d', rfl⟩ := List.length_eq_one_iff.mp h1
  obtain ⟨y, rfl⟩ := List.length_eq_one_iff.mp (hp.len.trans h1)
  have p2 := hp.1
  replace e : idxS d d' = some r := e
  unfold idxS at e
  split at e
  · rename_i xs
    split at e
    · rename_i hg
      cases hk : xs.findIdx? fun y => D.eqv y d' with
      | none => rw [hk] at e; cases e
      | some k =>
        rw [hk] at e
        cases e
        obtain ⟨z, z1, z2, z3⟩ := findIdx_spec hk
        rw [Bool.or_eq_true, Bool.and_eq_true, Bool.and_eq_true] at hg
        rcases hg with ⟨f1, f2⟩ | ⟨o1, o2⟩
        · obtain ⟨p, vs, rfl, h1, r1⟩ := p1.lst R.gh
          have hy := p2.flat f1
          obtain ⟨w, w1, w2⟩ := r1.get z1
          have hw := w2.flatV (List.all_eq_true.mp f2 z (List.mem_of_getElem? z1))
          refine mt_index pins s σ H _ _ v us Q I rx rv ⟨p, vs, y, k, w, rfl, rfl, SqL.of h1, flat_V hy, r1.flats f2, w1, by rw [← eqv_flat hw hy]; exact z2, fun m z' hm e' => ?_, fin0 R q (.int _)⟩
          obtain ⟨dz, dz1, dz2⟩ := r1.flat_get f2 e'
          rw [← eqv_flat dz2 hy]
          exact z3 m dz hm dz1
        · have a := p1.dp R o2
          have b := p2.dp R o1
          rw [hK] at a b
          obtain ⟨p, vs, rfl, h1, r1⟩ := p1.lst R.gh
          refine mt_indexD hu pins s σ H _ _ v us Q I rx rv ⟨p, y, d'.py, D.pys xs, k, z.py, rfl, rfl, a, b, o2, o1, by rw [pys_get, z1]; rfl, z2, fun m z' hm e' => ?_, fin0 R q (.int _)⟩
          rw [pys_get] at e'
          cases hx : xs[m]? with
          | none => rw [hx] at e'; cases e'
          | some dz =>
            rw [hx] at e'
            cases e'
            exact z3 m dz hm hx
    · cases e
  · cases e
def bmTyName : BM → String
  | .index => "list"
theorem bm_ty {F : Fr} {G H : Hp} {σ : L2.St} {s : S} (R : RS F G H σ s) {m : BM} {v : V} {d : D} (h : Pk F G H v d) (e : bmTy m d = true) : tyV F.K (bmTyName m) v H := by
  cases m with
  | index =>
    cases d <;> first | (exact Bool.noConfusion e) | skip
    obtain ⟨p, vs, rfl, h1, r1⟩ := h.lst R.gh
    exact .inl ⟨rfl, _, SqL.of h1⟩
theorem few_of {cp : Pos} {env : PySem.Env} {es : List Expr} (h : plains es = true) (hl : es.length < 30) : ((backTo cp (starEach es env)).all (fun x => !x.1) && (backToKw cp (keywordEach [] env)).all (fun x => x.1.isSome) && decide (es.length + ([] : List Keyword).length + (if ([] : List Keyword).isEmpty then 0 else 1) < 30)) = true := by
  rw [all_of h]
  simp [hl, keywordEach, backToKw]
theorem s_bm (C : Ctx X Tb N sc fnb n E CA W) {m : BM} {l a : Expr} {as : List Expr} {ap cp : Pos} {o : Den.X} {xs : XS} (hl : (ap.endLine == cp.line) = true) (pa : plainA l = true) (pr : plains (a :: as) = true) (hlen : as.length < 20) (h1 : PE X l (denP X.K CA W (evP E o))) (h2 : PA X (a :: as) (denPs X.K CA W (evPs E xs))) :
    PE X (.Call (.Attribute l m.name ap) (a :: as) [] cp) (denE X.K CA W (evX E (.bm m o xs))) := by
  have hu : X.A.units + 65 < cLine := by have := C.room.un; omega
  have pr' : plain a = true := by unfold plains at pr; rw [Bool.and_eq_true] at pr; exact pr.1
  have pr2 : plains as = true := by unfold plains at pr; rw [Bool.and_eq_true] at pr; exact pr.2
  have key : PE X (.Call (.Attribute l m.name ap) (a :: as) [] cp) (tBM X.K (bmTyName m) (rBm X.K CA m) (denP X.K CA W (evP E o)) (denPs X.K CA W (evPs E xs))) := by
    cases m with
    | index => exact pe_bm PySem.F.plainAttrs_list PySem.F.slot_list_index PySem.F.type_list_index (o_index (CA := CA) hu) h1 h2 (attr_of pa _ _ _) (few_of pr (by simp; omega)) hl (star_of pr' _ _) (any_of pr2)
  refine key.imp fun σ H Q ⟨F, G, s, hK, hC, R, P⟩ => ⟨F, G, s, hK, hC, R, ?_⟩
  have P : PostE F G σ W Q ((evP E o s).bind fun p s1 => match s1.look p with
    | some d => if bmTy m d = true then (evPs E xs s1).bind fun ps s2 => match s2.look p, s2.looks ps with
        | some d, some ds => .opt s2 (bmSem m d ds)
        | _, _ => .bad
      else .bad
    | none => .bad) := P
  cases hm : evP E o s with
  | ok p s1 =>
    rw [hm] at P
    intro v G1 H1 x1 R1 pv
    rw [show ∀ f, (Out.ok p s1 : Out PV).bind f = f p s1 from fun _ => rfl] at P
    split at P
    · rename_i d hd
      split at P
      · rename_i ht
        refine ⟨by rw [← hK]; exact bm_ty R1 (R1.look pv hd) ht, F, G1, s1, hK, hC, R1, ?_⟩
        cases hm2 : evPs E xs s1 with
        | ok ps s2 =>
          rw [hm2] at P
          intro ws G2 H2 x2 R2 pvs
          rw [show ∀ f, (Out.ok ps s2 : Out (List PV)).bind f = f ps s2 from fun _ => rfl] at P
          split at P
          · rename_i d2 ds h1 h2
            cases hs : bmSem m d2 ds with
            | none => rw [hs] at P; exact P.elim
            | some r =>
              rw [hs] at P
              exact ⟨F, G2, σ, s2, d2, ds, r, hK, hC, R2, R2.look (pv.mono x2) h1, R2.looks pvs h2, hs, fun v' G' H' g r => P v' G' H' ((x1.trans x2).trans g.g) (R2.grow g) r⟩
          · exact P.elim
        | ex c p s1 => rw [hm2] at P; exact exW.mono x1 P
        | bad => rw [hm2] at P; exact P
      · exact P.elim
    · exact P.elim
  | ex c p s1 => rw [hm] at P; exact P
  | bad => rw [hm] at P; exact P
/-! displays -/
theorem s_lst {es : List Expr} {xs : XS} {pos : Pos} (h : PA X es (denMs X.K CA W (evMs E xs))) : PE X (.List es pos) (denE X.K CA W (evX E (.lst xs))) := by
  refine (pe_lst h).imp fun σ H Q ⟨F, G, s, hK, hC, R, P⟩ => ⟨F, G, s, hK, hC, R, ?_⟩
  have P : PostE F G σ W Q ((evMs E xs s).bind fun ds s1 => if ds.length ≤ lim then .ok (.own (.lst ds)) s1 else .bad) := P
  cases hm : evMs E xs s with
  | ok ds s1 =>
    rw [hm] at P
    intro vs G1 H1 x1 R1 r1
    rw [show ∀ f, (Out.ok ds s1 : Out (List D)).bind f = f ds s1 from fun _ => rfl] at P
    split at P
    · rename_i hl
      exact ⟨by rw [r1.length]; exact sz hl, fun p hp => P _ G1 _ x1 (R1.grow (Grow.newH R1.gh hp)) (Res.own R1 hp (.lst upd_same r1))⟩
    · exact P.elim
  | ex c p s1 => rw [hm] at P; exact P
  | bad => rw [hm] at P; exact P
theorem s_tup {es : List Expr} {xs : XS} {k : Nat} {pos : Pos} (h : PA X es (denMs X.K CA W (evMs E xs))) : PE X (.Tuple es k pos) (denE X.K CA W (evX E (.tup xs))) := by
  refine (pe_tup h).imp fun σ H Q ⟨F, G, s, hK, hC, R, P⟩ => ⟨F, G, s, hK, hC, R, ?_⟩
  have P : PostE F G σ W Q ((evMs E xs s).bind fun ds s1 => if ds.length ≤ lim then .ok (.shr (.tup ds)) s1 else .bad) := P
  cases hm : evMs E xs s with
  | ok ds s1 =>
    rw [hm] at P
    intro vs G1 H1 x1 R1 r1
    rw [show ∀ f, (Out.ok ds s1 : Out (List D)).bind f = f ds s1 from fun _ => rfl] at P
    split at P
    · rename_i hl
      refine ⟨by rw [r1.length]; exact sz hl, fun p hp => P _ _ _ (x1.trans (Evl.Ex.new (gnone R1.gh hp))) (R1.grow (Grow.newG R1.gh hp)) (Res.shr (.tup (Evl.st_of upd_same) (r1.mono (Evl.Ex.new (gnone R1.gh hp)))))⟩
    · exact P.elim
  | ex c p s1 => rw [hm] at P; exact P
  | bad => rw [hm] at P; exact P
/-! lists of expressions -/
theorem s_nilP : PA X [] (denPs X.K CA W (evPs E .nil)) := pa_nil.imp fun σ H Q ⟨F, G, s, hK, hC, R, P⟩ => P [] G H (Evl.Ex.refl _) R trivial
theorem s_nilM : PA X [] (denMs X.K CA W (evMs E .nil)) := pa_nil.imp fun σ H Q ⟨F, G, s, hK, hC, R, P⟩ => P [] G H (Evl.Ex.refl _) R .nil
theorem s_consP {e : Expr} {es : List Expr} {x : Den.X} {xs : XS} (pl : plain e = true) (h1 : PE X e (denP X.K CA W (evP E x))) (h2 : PA X es (denPs X.K CA W (evPs E xs))) : PA X (e :: es) (denPs X.K CA W (evPs E (.cons x xs))) := by
  refine (pa_cons h1 h2 (star_of pl _ _)).imp fun σ H Q ⟨F, G, s, hK, hC, R, P⟩ => ⟨F, G, s, hK, hC, R, ?_⟩
  have P : PostPs F G σ W Q ((evP E x s).bind fun p s1 => (evPs E xs s1).bind fun ps s2 => .ok (p :: ps) s2) := P
  cases hm : evP E x s with
  | ok p s1 =>
    rw [hm] at P
    refine fun v G1 H1 x1 R1 pv => ⟨F, G1, s1, hK, hC, R1, ?_⟩
    have P : PostPs F G σ W Q ((evPs E xs s1).bind fun ps s2 => .ok (p :: ps) s2) := P
    cases hm2 : evPs E xs s1 with
    | ok ps s2 =>
      rw [hm2] at P
      exact fun vs G2 H2 x2 R2 pvs => P (v :: vs) G2 H2 (x1.trans x2) R2 ⟨pv.mono x2, pvs⟩
    | ex c p s1 => rw [hm2] at P; exact exW.mono x1 P
    | bad => rw [hm2] at P; exact P
  | ex c p s1 => rw [hm] at P; exact P
  | bad => rw [hm] at P; exact P
theorem s_consM {e : Expr} {es : List Expr} {x : Den.X} {xs : XS} (pl : plain e = true) (h1 : PE X e (denE X.K CA W (evX E x))) (h2 : PA X es (denMs X.K CA W (evMs E xs))) : PA X (e :: es) (denMs X.K CA W (evMs E (.cons x xs))) := by
  refine (pa_cons h1 h2 (star_of pl _ _)).imp fun σ H Q ⟨F, G, s, hK, hC, R, P⟩ => ⟨F, G, s, hK, hC, R, ?_⟩
  have P : PostMs F G σ W Q ((evX E x s).bind fun v s1 => match v.d with
    | some d => (evMs E xs s1).bind fun ds s2 => .ok (d :: ds) s2
    | none => .bad) := P
  cases hm : evX E x s with
  | ok y s1 =>
    rw [hm] at P
    intro v G1 H1 x1 R1 res
    rw [show ∀ f, (Out.ok y s1 : Out SV).bind f = f y s1 from fun _ => rfl] at P
    split at P
    · rename_i d hd
      obtain ⟨G2, x2, R2, r2⟩ := res.freeze R1 hd
      refine ⟨F, G2, s1, hK, hC, R2, ?_⟩
      cases hm2 : evMs E xs s1 with
      | ok ds s2 =>
        rw [hm2] at P
        exact fun vs G3 H3 x3 R3 rs => P (v :: vs) G3 H3 ((x1.trans x2).trans x3) R3 (.cons (r2.mono x3) rs)
      | ex c p s1 => rw [hm2] at P; exact exW.mono (x1.trans x2) P
      | bad => rw [hm2] at P; exact P
    · exact P.elim
  | ex c p s1 => rw [hm] at P; exact P
  | bad => rw [hm] at P; exact P
end
end Den
set_option Elab.async false
set_option linter.all false
set_option maxRecDepth 100000
set_option autoImplicit false
set_option maxHeartbeats 4000000
namespace Den
open PySem PySem.Spec PyProof.Rows L2
section
variable {X : Cx} {Tb : Tab} {N : List Str} {sc : Scope} {fnb : Str → Bool} {n : Nat} {E : Env} {CA : Nat → Option Addr} {W : WX}
/-- what is known of a list of expressions -/
def AllPE (X : Cx) (Tb : Tab) (N : List Str) (sc : Scope) (E : Env) (CA : Nat → Option Addr) (W : WX) : XS → List Expr → Prop
  | .nil, [] => True
  | .cons x xs, e :: es => (plain e = true ∧ PE X e (denE X.K CA W (evX E x)) ∧ PE X e (denP X.K CA W (evP E x))) ∧ AllPE X Tb N sc E CA W xs es
  | _, _ => False
theorem AllPE.plains : ∀ {xs : XS} {es : List Expr}, AllPE X Tb N sc E CA W xs es → plains es = true
  | .nil, [], _ => rfl
  | .cons x xs, e :: es, h => by unfold Den.plains; rw [h.1.1, AllPE.plains h.2]; rfl
  | .nil, _ :: _, h => h.elim
  | .cons _ _, [], h => h.elim
theorem AllPE.ps : ∀ {xs : XS} {es : List Expr}, AllPE X Tb N sc E CA W xs es → PA X es (denPs X.K CA W (evPs E xs))
  | .nil, [], _ => s_nilP
  | .cons x xs, e :: es, h => s_consP h.1.1 h.1.2.2 (AllPE.ps h.2)
  | .nil, _ :: _, h => h.elim
  | .cons _ _, [], h => h.elim
theorem AllPE.ms : ∀ {xs : XS} {es : List Expr}, AllPE X Tb N sc E CA W xs es → PA X es (denMs X.K CA W (evMs E xs))
  | .nil, [], _ => s_nilM
  | .cons x xs, e :: es, h => s_consM h.1.1 h.1.2.1 (AllPE.ms h.2)
  | .nil, _ :: _, h => h.elim
  | .cons _ _, [], h => h.elim
theorem AllPE.one {xs : XS} {e : Expr} (h : AllPE X Tb N sc E CA W xs [e]) : ∃ x, xs = .cons x .nil ∧ plain e = true ∧ PE X e (denP X.K CA W (evP E x)) := by
  match xs, h with
  | .cons x .nil, h => exact ⟨x, rfl, h.1.1, h.1.2.2⟩
  | .cons x (.cons _ _), h => exact h.2.elim
theorem AllPE.two {xs : XS} {e f : Expr} (h : AllPE X Tb N sc E CA W xs [e, f]) : ∃ x y, xs = .cons x (.cons y .nil) ∧ plain e = true ∧ plain f = true ∧ PE X e (denP X.K CA W (evP E x)) ∧ PE X f (denP X.K CA W (evP E y)) := by
  match xs, h with
  | .cons x (.cons y .nil), h => exact ⟨x, y, rfl, h.1.1, h.2.1.1, h.1.2.2, h.2.1.2.2⟩
  | .cons x .nil, h => exact h.2.elim
  | .cons x (.cons _ (.cons _ _)), h => exact h.2.2.elim
theorem shape_sound (C : Ctx X Tb N sc fnb n E CA W) {o : Op} {e : Expr} {gs : List Str} {es : List Expr} {xs : XS} (hs : shape o e = some (gs, es)) (hg : gs.all (glT Tb sc) = true) (ha : AllPE X Tb N sc E CA W xs es) : PE X e (denE X.K CA W (evX E (.op o xs))) := by
  unfold shape at hs
  split at hs
  · rename_i b hb
    split at hs
    · split at hs <;> cases hs
      rename_i hp
      subst hp
      obtain ⟨x, y, rfl, p1, p2, h1, h2⟩ := ha.two
      exact op_bin C hb h1 h2
    · cases hs
  · split at hs
    · rename_i c hc
      split at hs
      · split at hs <;> cases hs
        rename_i hp
        subst hp
        obtain ⟨x, y, rfl, p1, p2, h1, h2⟩ := ha.two
        exact op_cmp C hc p2 h1 h2
      · cases hs
    · split at hs
      · rename_i f hf
        split at hs
        · split at hs <;> cases hs
          rename_i hp
          subst hp
          exact op_fn C hf (by simpa using hg) ha.plains ha.ps
        · cases hs
      · split at hs
        · split at hs <;> cases hs
          obtain ⟨x, rfl, p1, h1⟩ := ha.one
          exact op_neg C h1
        · split at hs <;> cases hs
          obtain ⟨x, rfl, p1, h1⟩ := ha.one
          exact op_isN1 h1
        · split at hs <;> cases hs
          obtain ⟨x, rfl, p1, h1⟩ := ha.one
          exact op_isnN1 h1
        · split at hs <;> cases hs
          obtain ⟨x, y, rfl, p1, p2, h1, h2⟩ := ha.two
          exact op_ix C p2 h1 h2
        · split at hs <;> cases hs
          obtain ⟨x, rfl, p1, h1⟩ := ha.one
          exact op_sl0 C h1
        · split at hs <;> cases hs
          obtain ⟨x, y, rfl, p1, p2, h1, h2⟩ := ha.two
          exact op_sl1 C h1 h2
        · split at hs <;> cases hs
          obtain ⟨x, y, rfl, p1, p2, h1, h2⟩ := ha.two
          exact op_sl2 C h1 h2
        · split at hs <;> cases hs
          obtain ⟨x, rfl, p1, h1⟩ := ha.one
          exact op_rev C h1
        · split at hs
          · split at hs <;> cases hs
            rename_i hp
            obtain ⟨q1, q2⟩ := hp
            subst q1 q2
            obtain ⟨x, rfl, p1, h1⟩ := ha.one
            simp only [List.all_cons, List.all_nil, Bool.and_true, Bool.and_eq_true] at hg
            exact op_lrg C p1 hg.1 hg.2 h1
          · cases hs
        · split at hs
          · split at hs <;> cases hs
            rename_i hp
            obtain ⟨q1, q2⟩ := hp
            subst q1 q2
            obtain ⟨x, rfl, p1, h1⟩ := ha.one
            simp only [List.all_cons, List.all_nil, Bool.and_true, Bool.and_eq_true] at hg
            exact op_trg C p1 hg.1 hg.2 h1
          · cases hs
        · split at hs
          · split at hs <;> cases hs
            rename_i hp
            obtain ⟨q1, q2, q3⟩ := hp
            subst q1 q2
            obtain ⟨x, rfl, p1, h1⟩ := ha.one
            simp only [List.all_cons, List.all_nil, Bool.and_true, Bool.and_eq_true] at hg
            exact op_isinst C q3 hg.1 hg.2 p1 h1
          · cases hs
        · cases hs
/-! two comparisons -/
theorem s_cmp2 (C : Ctx X Tb N sc fnb n E CA W) {o p : Op} {a b c : Den.X} {l r q : Expr} {op pp : CmpOp} {pos : Pos} (h1 : copOf o = some op) (h2 : copOf p = some pp) (pq : plain q = true) (pl : PE X l (denP X.K CA W (evP E a))) (pr : PE X r (denP X.K CA W (evP E b))) (pc : PE X q (denP X.K CA W (evP E c))) :
    PE X (.Compare l [op, pp] [r, q] pos) (denE X.K CA W (evX E (.cmp2 o p a b c))) := by
  refine (pe_chain (cmpR C h1) (cmpR C h2) pl pr pc (last_of pq _ _)).imp fun σ H Q ⟨F, G, s, hK, hC, R, P⟩ => ⟨F, G, s, hK, hC, R, ?_⟩
  have P : PostE F G σ W Q ((evP E a s).bind fun x s1 => (evP E b s1).bind fun y s2 => match (s2.looks [x, y]).bind (opSem o) with
    | some (.shr (.bl true)) => (evP E c s2).bind fun z s3 => .opt s3 ((s3.looks [y, z]).bind (opSem p))
    | some (.shr (.bl false)) => .ok (.shr (.bl false)) s2
    | _ => .bad) := P
  cases hm : evP E a s with
  | ok p1 s1 =>
    rw [hm] at P
    refine fun v G1 H1 x1 R1 pv => ⟨F, G1, s1, hK, hC, R1, ?_⟩
    rw [show ∀ f, (Out.ok p1 s1 : Out PV).bind f = f p1 s1 from fun _ => rfl] at P
    cases hm2 : evP E b s1 with
    | ok p2 s2 =>
      rw [hm2] at P
      intro w G2 H2 x2 R2 pv2
      rw [show ∀ f, (Out.ok p2 s2 : Out PV).bind f = f p2 s2 from fun _ => rfl] at P
      cases hl : s2.looks [p1, p2] with
      | none => rw [hl] at P; exact P.elim
      | some ds =>
        rw [hl] at P
        have P : PostE F G σ W Q (match opSem o ds with
          | some (.shr (.bl true)) => (evP E c s2).bind fun z s3 => .opt s3 ((s3.looks [p2, z]).bind (opSem p))
          | some (.shr (.bl false)) => .ok (.shr (.bl false)) s2
          | _ => .bad) := P
        split at P
        · rename_i ho
          refine ⟨F, G2, σ, s2, ds, _, hK, hC, R2, R2.looks (show PVs F G2 σ [v, w] [p1, p2] from ⟨pv.mono x2, pv2, trivial⟩) hl, ho, fun z G' H' g res => ⟨true, Rep.bl' res.1, ?_⟩⟩
          rw [if_pos rfl]
          refine ⟨F, G', s2, hK, hC, R2.grow g, ?_⟩
          cases hm3 : evP E c s2 with
          | ok p3 s3 =>
            rw [hm3] at P
            exact fun u G3 H3 x3 R3 pv3 => op_last hK hC (((x1.trans x2).trans g.g).trans x3) R3 (show PVs F G3 σ [w, u] [p2, p3] from ⟨(pv2.mono g.g).mono x3, pv3, trivial⟩) P
          | ex c p s1 => rw [hm3] at P; exact exW.mono ((x1.trans x2).trans g.g) P
          | bad => rw [hm3] at P; exact P
        · rename_i ho
          refine ⟨F, G2, σ, s2, ds, _, hK, hC, R2, R2.looks (show PVs F G2 σ [v, w] [p1, p2] from ⟨pv.mono x2, pv2, trivial⟩) hl, ho, fun z G' H' g res => ⟨false, Rep.bl' res.1, ?_⟩⟩
          rw [if_neg Bool.false_ne_true]
          exact P _ G' H' ((x1.trans x2).trans g.g) (R2.grow g) (Res.shr (.bl false))
        · exact P.elim
    | ex c p s1 => rw [hm2] at P; exact exW.mono x1 P
    | bad => rw [hm2] at P; exact P
  | ex c p s1 => rw [hm] at P; exact P
  | bad => rw [hm] at P; exact P
theorem s_and {a b : Den.X} {v w : Expr} {rest : List Expr} {pos : Pos} (h1 : PE X v (denE X.K CA W (evX E a))) (h2 : PE X (.BoolOp .And (w :: rest) pos) (denE X.K CA W (evX E b))) : PE X (.BoolOp .And (v :: w :: rest) pos) (denE X.K CA W (evX E (.and a b))) := by
  refine (pe_and h1 h2).imp fun σ H Q ⟨F, G, s, hK, hC, R, P⟩ => ⟨F, G, s, hK, hC, R, ?_⟩
  have P : PostE F G σ W Q ((evX E a s).bind fun v s1 => match v with
    | .shr (.bl true) => evX E b s1
    | .shr (.bl false) => .ok (.shr (.bl false)) s1
    | _ => .bad) := P
  cases hm : evX E a s with
  | ok y s1 =>
    rw [hm] at P
    intro x G1 H1 x1 R1 res
    rw [show ∀ f, (Out.ok y s1 : Out SV).bind f = f y s1 from fun _ => rfl] at P
    split at P
    · refine ⟨true, Rep.bl' res.1, ?_⟩
      rw [if_pos rfl]
      exact ⟨F, G1, s1, hK, hC, R1, P.mono x1⟩
    · refine ⟨false, Rep.bl' res.1, ?_⟩
      rw [if_neg Bool.false_ne_true]
      exact P _ G1 H1 x1 R1 (Res.shr (.bl false))
    · exact P.elim
  | ex c p s1 => rw [hm] at P; exact P
  | bad => rw [hm] at P; exact P
theorem s_or {a b : Den.X} {v w : Expr} {rest : List Expr} {pos : Pos} (h1 : PE X v (denE X.K CA W (evX E a))) (h2 : PE X (.BoolOp .Or (w :: rest) pos) (denE X.K CA W (evX E b))) : PE X (.BoolOp .Or (v :: w :: rest) pos) (denE X.K CA W (evX E (.or a b))) := by
  refine (pe_or h1 h2).imp fun σ H Q ⟨F, G, s, hK, hC, R, P⟩ => ⟨F, G, s, hK, hC, R, ?_⟩
  have P : PostE F G σ W Q ((evX E a s).bind fun v s1 => match v with
    | .shr (.bl false) => evX E b s1
    | .shr (.bl true) => .ok (.shr (.bl true)) s1
    | _ => .bad) := P
  cases hm : evX E a s with
  | ok y s1 =>
    rw [hm] at P
    intro x G1 H1 x1 R1 res
    rw [show ∀ f, (Out.ok y s1 : Out SV).bind f = f y s1 from fun _ => rfl] at P
    split at P
    · refine ⟨false, Rep.bl' res.1, ?_⟩
      rw [if_neg Bool.false_ne_true]
      exact ⟨F, G1, s1, hK, hC, R1, P.mono x1⟩
    · refine ⟨true, Rep.bl' res.1, ?_⟩
      rw [if_pos rfl]
      exact P _ G1 H1 x1 R1 (Res.shr (.bl true))
    · exact P.elim
  | ex c p s1 => rw [hm] at P; exact P
  | bad => rw [hm] at P; exact P
theorem s_not {a : Den.X} {v : Expr} {pos : Pos} (h1 : PE X v (denE X.K CA W (evX E a))) : PE X (.UnaryOp .Not v pos) (denE X.K CA W (evX E (.not a))) := by
  refine (pe_not h1).imp fun σ H Q ⟨F, G, s, hK, hC, R, P⟩ => ⟨F, G, s, hK, hC, R, ?_⟩
  have P : PostE F G σ W Q ((evX E a s).bind fun v s1 => match v with
    | .shr (.bl b) => .ok (.shr (.bl (!b))) s1
    | _ => .bad) := P
  cases hm : evX E a s with
  | ok y s1 =>
    rw [hm] at P
    intro x G1 H1 x1 R1 res
    rw [show ∀ f, (Out.ok y s1 : Out SV).bind f = f y s1 from fun _ => rfl] at P
    split at P
    · rename_i b
      exact ⟨b, Rep.bl' res.1, P _ G1 H1 x1 R1 (Res.shr (.bl _))⟩
    · exact P.elim
  | ex c p s1 => rw [hm] at P; exact P
  | bad => rw [hm] at P; exact P
theorem s_ite {t : T} {a b : Den.X} {c l r : Expr} {pos : Pos} (ht : PT X c (denT X.K CA W (evT E t))) (h1 : PE X l (denE X.K CA W (evX E a))) (h2 : PE X r (denE X.K CA W (evX E b))) : PE X (.IfExp c l r pos) (denE X.K CA W (evX E (.ite t a b))) := by
  refine (pe_ifExp ht h1 h2).imp fun σ H Q ⟨F, G, s, hK, hC, R, P⟩ => ⟨F, G, s, hK, hC, R, ?_⟩
  have P : PostE F G σ W Q ((evT E t s).bind fun c s1 => if c = true then evX E a s1 else evX E b s1) := P
  cases hm : evT E t s with
  | ok y s1 =>
    rw [hm] at P
    intro G1 H1 x1 R1
    rw [show ∀ f, (Out.ok y s1 : Out Bool).bind f = f y s1 from fun _ => rfl] at P
    cases y with
    | true =>
      rw [if_pos rfl] at P ⊢
      exact ⟨F, G1, s1, hK, hC, R1, P.mono x1⟩
    | false =>
      rw [if_neg Bool.false_ne_true] at P ⊢
      exact ⟨F, G1, s1, hK, hC, R1, P.mono x1⟩
  | ex c p s1 => rw [hm] at P; exact P
  | bad => rw [hm] at P; exact P
/-! calls -/
theorem bindval_nobr {r : Out SV} {s : S} {p : PV} (h : (r.bind fun v s1 => match v.d with | some d => (Out.ok (PV.val d) s1 : Out PV) | none => .bad) = .ok p s) (k : Nat) : p ≠ .br k := by
  intro e
  subst e
  cases r with
  | ok v s2 =>
    have h : (match v.d with | some d => (Out.ok (PV.val d) s2 : Out PV) | none => .bad) = .ok (.br k) s := h
    split at h <;> cases h
  | ex c p s2 => cases h
  | bad => cases h
theorem pvs_nobr {m : Den.X} {E : Env} {s s1 : S} {p : PV} (h : evP E m s = .ok p s1) : ∀ k, p ≠ .br k := by
  intro k
  unfold evP at h
  unfold pvOf at h
  split at h
  · split at h
    · cases h; intro e; cases e
    · cases h
  · exact bindval_nobr h k
theorem evPs_nobr {E : Env} : ∀ {xs : XS} {s s1 : S} {ps : List PV}, evPs E xs s = .ok ps s1 → ∀ p ∈ ps, ∀ k, p ≠ .br k
  | .nil, s, s1, ps, h => by
    have h : Out.ok [] s = .ok ps s1 := h
    cases h
    intro p hp; cases hp
  | .cons x xs, s, s1, ps, h => by
    have h : ((evP E x s).bind fun p s1 => (evPs E xs s1).bind fun ps s2 => .ok (p :: ps) s2) = .ok ps s1 := h
    cases hx : evP E x s with
    | ok p s2 =>
      rw [hx] at h
      have h : ((evPs E xs s2).bind fun ps s2 => .ok (p :: ps) s2) = .ok ps s1 := h
      cases hxs : evPs E xs s2 with
      | ok qs s3 =>
        rw [hxs] at h
        have h : Out.ok (p :: qs) s3 = .ok ps s1 := h
        cases h
        intro q hq
        rcases List.mem_cons.mp hq with rfl | hq
        · exact pvs_nobr hx
        · exact evPs_nobr hxs q hq
      | ex c p s2 => rw [hxs] at h; cases h
      | bad => rw [hxs] at h; cases h
    | ex c p s2 => rw [hx] at h; cases h
    | bad => rw [hx] at h; cases h
theorem s_call (C : Ctx X Tb N sc fnb n E CA W) {f : Nat} {I : FI} {ms : List Bool} {xs : XS} {e : Expr} {es : List Expr} {p pos : Pos} (hI : Tb.fs[f]? = some I) (ho : I.own = .no) (hg : glB sc I.name = true) (pl : plains (e :: es) = true) (ha : PA X (e :: es) (denPs X.K CA W (evPs E xs))) :
    PE X (.Call (.Name I.name p) (e :: es) [] pos) (denE X.K CA W (evX E (.call f ms xs))) := by
  obtain ⟨g, ok⟩ := C.gl hg
  obtain ⟨d1, d2, d3⟩ := okName_dbg ok
  unfold plains at pl
  rw [Bool.and_eq_true] at pl
  refine (My.pcallX ((C.tab.fns f I hI).at ho) C.room C.tk ha (Nat.le_succ _) g d1 (star_of pl.1 _ _) (any_of pl.2)).imp fun σ H Q ⟨F, G, s, hK, hC, R, P⟩ => ⟨F, G, s, hK, hC, R, ?_⟩
  have P : PostE F G σ W Q ((evPs E xs s).bind fun ps s1 => callRun E f ms ps s1) := P
  cases hm : evPs E xs s with
  | ok ps s1 =>
    rw [hm] at P
    intro vs G1 H1 x1 R1 pvs
    have := call_ok R1 x1 pvs (evPs_nobr hm) P
    rw [hK, hC] at this
    exact this
  | ex c p s1 => rw [hm] at P; exact P
  | bad => rw [hm] at P; exact P
end
end Den
set_option Elab.async false
set_option linter.all false
set_option maxRecDepth 100000
set_option autoImplicit false
set_option maxHeartbeats 4000000
namespace Den
open PySem PySem.Spec PyProof.Rows L2
/-! ### own classes -/
theorem meth_eval {o : Expr} {m : Str} {ap pos : Pos} {args : List Expr} {env : PySem.Env} (hb : attributeBase o m env (eval o env) = eval o env)
    (hf : methodCallForm (args.length + ([] : List Keyword).length) (backTo pos (starEach args env)) (backToKw pos (keywordEach [] env)) = true) (hl : (ap.endLine == pos.line) = true) :
    eval (.Call (.Attribute o m ap) args [] pos) env = (do
      let ov ← eval o env
      standAt ap.atName
      let (f, first) ← holding [ov] (getMethod ov m (do return (← importBound o env).getD true))
      callWith pos f first (backTo pos (starEach args env)) (backToKw pos (keywordEach [] env))) := by
  rw [arm_eval_Call, hb]
  unfold methodCall
  rw [hf]
  have z : methodCallPos true o env ap pos = pure pos := by unfold methodCallPos; simp [hl]
  rw [z]
  rfl
/-- o.m(..), the class and its def are known when o is there -/
def tMethD (X : Cx) (m : Str) (E : L2.St → XK) (ta : TE) (t : TA) : TE := fun σ H Q => ta σ H fun x H1 => ∃ (k : Nat) (f C : Addr) (fd : FuncData) (ps : List Str) (sp : Sp), (Cls X.K C ∧ Meth X.K C m f ∧ FnOk X.prog X.w X.K X.mg X.base (L2.CX X.prog X.w) k f fd ps sp ∧ Room k X.A ∧ Binds X.K fd ps []) ∧
  ∃ a dx fs, x = .ref a ∧ H1 a = some (.ins C dx fs) ∧ fs.lookup m = none ∧ t σ H1 fun vs H2 => sp (x :: vs) H2 Q (E σ)
section
variable {X : Cx} {m x : Str} {ap pos p : Pos} {o e : Expr} {es : List Expr} {ta : TE} {t : TA} {W : WX}
theorem pe_methD (ho : PE X o ta) (tk : Takes X W) (ha : PA X (e :: es) t) (pl : plains (e :: es) = true) (pa : plainA o = true) (hn : es.length < 20) (hl : (ap.endLine == pos.line) = true) :
    PE X (.Call (.Attribute o m ap) (e :: es) [] pos) (tMethD X m (WE W) ta t) := by
  have pl1 : plain e = true := by unfold plains at pl; rw [Bool.and_eq_true] at pl; exact pl.1
  have pl2 : plains es = true := by unfold plains at pl; rw [Bool.and_eq_true] at pl; exact pl.2
  constructor
  intro pn s τ H Q J g
  refine PySem.W.methodCall_KW (thn (ho.run pn s τ H _ J g) fun u s1 ⟨v, H1, J1, rv, k, f, C, fd, ps, sp, ⟨c, hm, F, hr, hb⟩, a, dx, fs, ev, ea, lk, g1⟩ => ?_) (meth_eval (attr_of pa _ _ _) (few_of pl (by simp; omega)) hl)
  subst ev
  obtain rfl : u = Value.ref a := rv
  refine getmeth_ok J1 ea c hm lk ?_
  refine PySem.W.callWith_K (first := [.ref a]) (h₀ := X.base) J1.ok.mod.kin hm.kp (thn (ha.run pos pn s1 τ H1 _ J1 g1) fun us s2 ⟨ws, H2, J2, rw2, g2⟩ => ⟨J2.kIn, ?_⟩) (star_of pl1 _ _) (any_of pl2)
  exact run_fnS (us := .ref a :: us) (vs := .ref a :: ws) F hr hb (passAt tk τ) J2 (.cons rfl rw2) g2
theorem pe_methD0 (ho : PE X o ta) (tk : Takes X W) (pa : plainA o = true) (hl : (ap.endLine == pos.line) = true) :
    PE X (.Call (.Attribute o m ap) [] [] pos) (tMethD X m (WE W) ta tNil) := by
  constructor
  intro pn s τ H Q J g
  refine PySem.W.methodCall_KW (thn (ho.run pn s τ H _ J g) fun u s1 ⟨v, H1, J1, rv, k, f, C, fd, ps, sp, ⟨c, hm, F, hr, hb⟩, a, dx, fs, ev, ea, lk, g1⟩ => ?_) (meth_eval (attr_of pa _ _ _) (by rfl) hl)
  subst ev
  obtain rfl : u = Value.ref a := rv
  refine getmeth_ok J1 ea c hm lk ?_
  exact PySem.W.callWith_K0 (first := [.ref a]) J1.kIn hm.kp (run_fnS (us := [.ref a]) (vs := [.ref a]) F hr hb (passAt tk τ) J1 (.cons rfl .nil) g1)
/-- C.m(..), m a staticmethod -/
def tStat (C : Addr) (sp : Sp) (E : L2.St → XK) (ta : TE) (t : TA) : TE := fun σ H Q => ta σ H fun x H1 => x = .ref C ∧ t σ H1 fun vs H2 => sp vs H2 Q (E σ)
theorem pe_stat {k : Nat} {C f : Addr} {fd : FuncData} {ps : List Str} {sp : Sp} (ho : PE X o ta) (S : StatM X.K C m f) (kp : PySem.W.keepIn X.K (.ref f) = true) (F : FnOk X.prog X.w X.K X.mg X.base (L2.CX X.prog X.w) k f fd ps sp) (hr : Room k X.A) (hb : Binds X.K fd ps [])
    (tk : Takes X W) (ha : PA X (e :: es) t) (pl : plains (e :: es) = true) (pa : plainA o = true) (hn : es.length < 20) (hl : (ap.endLine == pos.line) = true) :
    PE X (.Call (.Attribute o m ap) (e :: es) [] pos) (tStat C sp (WE W) ta t) := by
  have pl1 : plain e = true := by unfold plains at pl; rw [Bool.and_eq_true] at pl; exact pl.1
  have pl2 : plains es = true := by unfold plains at pl; rw [Bool.and_eq_true] at pl; exact pl.2
  constructor
  intro pn s τ H Q J g
  refine PySem.W.methodCall_KW (thn (ho.run pn s τ H _ J g) fun u s1 ⟨v, H1, J1, rv, ev, g1⟩ => ?_) (meth_eval (attr_of pa _ _ _) (few_of pl (by simp; omega)) hl)
  subst ev
  obtain rfl : u = Value.ref C := rv
  obtain ⟨mc, q, rd, at_, rest, hq⟩ := S.at_
  refine PySem.W.method_cls J1.kIn S.ga (PySem.W.cls_bind J1.kIn rd at_ (wpAny_call (PySem.W.sm_get (s := { s1 with toks := s1.toks + 1 }) J1.kIn hq (PySem.W.handed_on rfl ?_))))
  have J1' : Inv X pn τ H1 { s1 with toks := s1.toks + 1 } := J1.tok _
  refine PySem.W.callWith_K (first := []) (h₀ := X.base) J1'.ok.mod.kin kp (thn (ha.run pos pn _ τ H1 _ J1' g1) fun us s2 ⟨ws, H2, J2, rw2, g2⟩ => ⟨J2.kIn, ?_⟩) (star_of pl1 _ _) (any_of pl2)
  exact run_fnS F hr hb (passAt tk τ) J2 rw2 g2
/-- C(..) -/
def tMakeD (C : Addr) (sp : Sp) (E : L2.St → XK) (t : TA) : TE := fun σ H Q => t σ H fun vs H1 => ∀ x dx, H1 x = none → H1 dx = none → dx ≠ x → sp (.ref x :: vs) (upd (upd H1 dx (.own x)) x (.ins C dx [])) (fun v H2 => v = .non ∧ Q (.ref x) H2) (E σ)
theorem run_makeD {k : Nat} {C f : Addr} {fd : FuncData} {ps : List Str} {sp : Sp} {pn : List (Addr × Obj)} {τ : L2.St} {H : Hp} {s : Shared} {Q : VK} {us : List Value} {vs : List V} (M : Mk X.K C f) (F : FnOk X.prog X.w X.K X.mg X.base (L2.CX X.prog X.w) k f fd ps sp)
    (hr : Room (k + 1) X.A) (hb : Binds X.K fd ps []) (tk : Takes X W) (J : Inv X pn τ H s) (r : Vals vs us)
    (g : ∀ x dx, H x = none → H dx = none → dx ≠ x → sp (.ref x :: vs) (upd (upd H dx (.own x)) x (.ins C dx [])) (fun v H2 => v = .non ∧ Q (.ref x) H2) (WE W τ)) :
    wpAny (model X.prog X.w) X.A (call (.ref C) us) (EP X pn τ Q) X.xe s := by
  have q1 := g (s.heap.objs.size + 1) s.heap.objs.size (J.hok.fresh (Nat.le_succ _)) (J.hok.fresh (Nat.le_refl _)) (Nat.ne_of_lt (Nat.lt_succ_self _))
  have J2 := Inv.made (C := C) J
  have r2 : Vals (V.ref (s.heap.objs.size + 1) :: vs) (Value.ref (s.heap.objs.size + 1) :: us) := .cons rfl r
  have hl : (Value.ref (s.heap.objs.size + 1) :: us).length = ps.length := by
    rw [← r2.length]
    exact F.len _ _ _ _ q1
  have b := hb _ (Value.ref (s.heap.objs.size + 1) :: us) J2.kIn (by rw [List.append_nil]; exact hl)
  rw [List.append_nil] at b
  refine wpAny_call (make_map (f := f) J.kIn M.makes M.init (beq_iff_eq.mp M.fn) (codeAny_mono (F.run _ X.stack _ _ ⟨Value.ref (s.heap.objs.size + 1) :: us, []⟩ _ _ _ (WE W τ) (hr.make C us []) (J2.env0.make C us []) b r2 q1) fun z s' hz => ?_))
  cases z with
  | error e => exact passAt tk τ pn _ _ e s' J2 hz
  | ok fl =>
    cases fl with
    | ret u =>
      obtain ⟨v, H3, J3, rv, ev, q3⟩ := J2.after hz
      subst ev
      exact ⟨rv, ⟨V.ref (s.heap.objs.size + 1), H3, J3, rfl, q3⟩⟩
    | next => exact hz.elim
    | brk => exact hz.elim
    | cont => exact hz.elim
theorem pe_makeD {k : Nat} {C f : Addr} {fd : FuncData} {ps : List Str} {sp : Sp} (M : Mk X.K C f) (F : FnOk X.prog X.w X.K X.mg X.base (L2.CX X.prog X.w) k f fd ps sp) (hr : Room (k + 1) X.A) (hb : Binds X.K fd ps []) (tk : Takes X W) (hg : Gl X x) (hm : X.mg x = some (.ref C))
    (hdb : (x == ("__debug__" : Str)) = false) (ha : PA X (e :: es) t) (pl : plains (e :: es) = true) : PE X (.Call (.Name x p) (e :: es) [] pos) (tMakeD C sp (WE W) t) := by
  have pl1 : plain e = true := by unfold plains at pl; rw [Bool.and_eq_true] at pl; exact pl.1
  have pl2 : plains es = true := by unfold plains at pl; rw [Bool.and_eq_true] at pl; exact pl.2
  constructor
  intro pn s τ H Q J g
  refine wpAny_Call_Name_kw (ld_glob J hg hm ?_ hdb)
  refine PySem.W.callWith_K (h₀ := X.base) J.ok.mod.kin M.kp (thn (ha.run pos pn s τ H _ J g) fun us s1 ⟨vs, H1, J1, r, q⟩ => ⟨J1.kIn, ?_⟩) (star_of pl1 _ _) (any_of pl2)
  exact run_makeD M F hr hb tk J1 r q
end
theorem lookF_rep {K : PySem.W.Frag} {CA : Nat → Option Addr} {G : Hp} {f : Str} {d : D} : ∀ {fs : List (Str × V)} {ds : List D}, Reps K CA G (fs.map (·.2)) ds → lookF f (fs.map (·.1)) ds = some d → ∃ v, fs.lookup f = some v ∧ Rep K CA G v d
  | [], ds, _, h => by cases ds <;> cases h
  | (n, v) :: r, ds, rs, h => by
    cases rs with
    | cons r1 r2 =>
      rename_i e es
      have h : (if n = f then some e else lookF f (r.map (·.1)) es) = some d := h
      rw [List.lookup_cons]
      by_cases z : n = f
      · subst z
        rw [if_pos rfl] at h
        cases h
        rw [beq_self_eq_true]
        exact ⟨v, rfl, r1⟩
      · rw [if_neg z] at h
        have : (f == n) = false := beq_eq_false_iff_ne.mpr (Ne.symm z)
        rw [this]
        exact lookF_rep r2 h
theorem lookup_none {f : Str} : ∀ {fs : List (Str × V)}, (fs.map (·.1)).contains f = false → fs.lookup f = none
  | [], _ => rfl
  | (n, v) :: r, h => by
    rw [List.map_cons, List.contains_cons, Bool.or_eq_false_iff] at h
    rw [List.lookup_cons, h.1]
    exact lookup_none h.2
section
variable {X : Cx} {Tb : Tab} {N : List Str} {sc : Scope} {fnb : Str → Bool} {n : Nat} {E : Env} {CA : Nat → Option Addr} {W : WX}
theorem s_fld (C : Ctx X Tb N sc fnb n E CA W) {cs : List Nat} {f : Str} {o : Den.X} {l : Expr} {pos : Pos} (pa : plainA l = true) (hc : fldOk Tb cs f = true) (h1 : PE X l (denP X.K CA W (evP E o))) :
    PE X (.Attribute l f pos) (denE X.K CA W (evX E (.fld cs f o))) := by
  refine (pe_fld h1 (attr_of pa _ _ _)).imp fun σ H Q ⟨F, G, s, hK, hC, R, P⟩ => ⟨F, G, s, hK, hC, R, ?_⟩
  have P : PostE F G σ W Q ((evP E o s).bind fun p s1 => .opt s1 ((s1.look p).bind (fldS cs f))) := P
  cases hm : evP E o s with
  | ok p s1 =>
    rw [hm] at P
    intro v G1 H1 x1 R1 pv
    have P : PostE F G σ W Q (.opt s1 ((s1.look p).bind (fldS cs f))) := P
    cases hl : s1.look p with
    | none => rw [hl] at P; exact P.elim
    | some d =>
      rw [hl] at P
      have P : PostE F G σ W Q (.opt s1 (fldS cs f d)) := P
      cases hs : fldS cs f d with
      | none => rw [hs] at P; exact P.elim
      | some r =>
        rw [hs] at P
        cases d <;> first | (cases hs; done) | skip
        rename_i c ns vs
        obtain ⟨a, C', dx, fs, rfl, e1, e2, rfl, r1⟩ := (R1.look pv hl).obj R1.gh
        have hs : (if cs.contains c = true then (lookF f (fs.map (·.1)) vs).map SV.shr else none) = some r := hs
        by_cases hcs : cs.contains c = true
        · rw [if_pos hcs] at hs
          have h2 := List.all_eq_true.mp hc c (List.contains_iff_mem.mp hcs)
          split at h2
          · rename_i I hI
            obtain ⟨C2, hC2, ok⟩ := C.tab.cls c I hI
            rw [hC, hC2] at e1
            cases e1
            cases hk : lookF f (fs.map (·.1)) vs with
            | none => rw [hk] at hs; cases hs
            | some d2 =>
              rw [hk] at hs
              cases hs
              obtain ⟨u, hu, ru⟩ := lookF_rep r1 hk
              exact ⟨a, _, dx, fs, u, rfl, e2, ok.cl, ok.fl f h2, hu, P u G1 H1 x1 R1 (Res.shr ru)⟩
          · cases h2
        · rw [if_neg hcs] at hs; cases hs
  | ex c p s1 => rw [hm] at P; exact P
  | bad => rw [hm] at P; exact P
theorem s_con (C : Ctx X Tb N sc fnb n E CA W) {cs : List Nat} {f : Str} {d : D} {o : Den.X} {l : Expr} {pos : Pos} (pa : plainA l = true) (hc : conOk Tb cs f d = true) (h1 : PE X l (denP X.K CA W (evP E o))) :
    PE X (.Attribute l f pos) (denE X.K CA W (evX E (.con cs f d o))) := by
  refine (pe_con h1 (attr_of pa _ _ _)).imp fun σ H Q ⟨F, G, s, hK, hC, R, P⟩ => ⟨F, G, s, hK, hC, R, ?_⟩
  have P : PostE F G σ W Q ((evP E o s).bind fun p s1 => .opt s1 ((s1.look p).bind (conS cs f d))) := P
  cases hm : evP E o s with
  | ok p s1 =>
    rw [hm] at P
    intro v G1 H1 x1 R1 pv
    have P : PostE F G σ W Q (.opt s1 ((s1.look p).bind (conS cs f d))) := P
    cases hl : s1.look p with
    | none => rw [hl] at P; exact P.elim
    | some e =>
      rw [hl] at P
      have P : PostE F G σ W Q (.opt s1 (conS cs f d e)) := P
      cases hs : conS cs f d e with
      | none => rw [hs] at P; exact P.elim
      | some r =>
        rw [hs] at P
        cases e <;> first | (cases hs; done) | skip
        rename_i c ns vs
        obtain ⟨a, C', dx, fs, rfl, e1, e2, rfl, r1⟩ := (R1.look pv hl).obj R1.gh
        have hs : (if cs.contains c = true ∧ (fs.map (·.1)).contains f = false ∧ d.flat = true then some (SV.shr d) else none) = some r := hs
        by_cases hcs : cs.contains c = true ∧ (fs.map (·.1)).contains f = false ∧ d.flat = true
        · rw [if_pos hcs] at hs
          cases hs
          have h2 := List.all_eq_true.mp hc c (List.contains_iff_mem.mp hcs.1)
          split at h2
          · rename_i I hI
            obtain ⟨C2, hC2, ok⟩ := C.tab.cls c I hI
            rw [hC, hC2] at e1
            cases e1
            obtain ⟨u, w, k, hv⟩ := ok.co f d (of_decide_eq_true h2)
            exact ⟨a, _, dx, fs, u, w, rfl, e2, ok.cl, k, lookup_none hcs.2.1, P u G1 H1 x1 R1 (Res.shr (Rep.ofV hv))⟩
          · cases h2
        · rw [if_neg hcs] at hs; cases hs
  | ex c p s1 => rw [hm] at P; exact P
  | bad => rw [hm] at P; exact P
theorem nosl_of {e : Expr} (h : plain e = true) : NoSl e := by
  cases e <;> first | trivial | (exact Bool.noConfusion h) | (unfold NoSl; intro _ _; rfl)
theorem s_dget (C : Ctx X Tb N sc fnb n E CA W) {a b : Den.X} {l r : Expr} {pos : Pos} (pr : plain r = true) (h1 : PE X l (denP X.K CA W (evP E a))) (h2 : PE X r (denP X.K CA W (evP E b))) :
    PE X (.Subscript l r pos) (denE X.K CA W (evX E (.dget a b))) := by
  refine (pe_dget (by have := C.room.un; omega) h1 h2 (nosl_of pr)).imp fun σ H Q ⟨F, G, s, hK, hC, R, P⟩ => ⟨F, G, s, hK, hC, R, ?_⟩
  have P : PostE F G σ W Q ((evP E a s).bind fun p s1 => (evP E b s1).bind fun q s2 => match s2.look p, s2.look q with
    | some d, some e => .opt s2 (getS d e)
    | _, _ => .bad) := P
  cases hm : evP E a s with
  | ok p1 s1 =>
    rw [hm] at P
    refine fun v G1 H1 x1 R1 pv => ⟨F, G1, s1, hK, hC, R1, ?_⟩
    rw [show ∀ f, (Out.ok p1 s1 : Out PV).bind f = f p1 s1 from fun _ => rfl] at P
    cases hm2 : evP E b s1 with
    | ok p2 s2 =>
      rw [hm2] at P
      intro w G2 H2 x2 R2 pv2
      rw [show ∀ f, (Out.ok p2 s2 : Out PV).bind f = f p2 s2 from fun _ => rfl] at P
      split at P
      · rename_i d e hd he
        have k1 := R2.look (pv.mono x2) hd
        have k2 := R2.look pv2 he
        cases hs : getS d e with
        | none => rw [hs] at P; exact P.elim
        | some z =>
          rw [hs] at P
          cases d <;> first | (cases hs; done) | skip
          rename_i ks vs
          have hs : (if e.key = true then (lookD e ks vs).map SV.shr else none) = some z := hs
          by_cases hk : e.key = true
          · rw [if_pos hk] at hs
            obtain ⟨a', kvs, rfl, e1, rfl, r1⟩ := k1.dic R2.gh
            obtain ⟨k, rfl, rfl⟩ := k2.keyd hk
            cases hq : lookD (kD k) (kvs.map fun p => kD p.1) vs with
            | none => rw [hq] at hs; cases hs
            | some d2 =>
              rw [hq] at hs
              cases hs
              obtain ⟨u, hu, ru⟩ := lookD_val r1 hq
              exact ⟨a', u, rfl, by rw [← hu]; exact DGet.k e1, P u G2 H2 (x1.trans x2) R2 (Res.shr ru)⟩
          · rw [if_neg hk] at hs; cases hs
      · exact P.elim
    | ex c p s1 => rw [hm2] at P; exact exW.mono x1 P
    | bad => rw [hm2] at P; exact P
  | ex c p s1 => rw [hm] at P; exact P
  | bad => rw [hm] at P; exact P
theorem lookup_mem' {c f : Nat} : ∀ {cs : List (Nat × Nat)}, cs.lookup c = some f → (c, f) ∈ cs
  | [], h => by cases h
  | (a, b) :: r, h => by
    rw [List.lookup_cons] at h
    split at h
    · rename_i e
      cases h
      have := beq_iff_eq.mp e
      subst this
      exact List.mem_cons_self
    · exact List.mem_cons_of_mem _ (lookup_mem' h)
theorem meth_imp (C : Ctx X Tb N sc fnb n E CA W) {m : Str} {cs : List (Nat × Nat)} {ms : List Bool} {o : Den.X} {xs : XS} {t : TA} (hc : methOk Tb m cs = true) (ht : ∀ σ H Q, denPs X.K CA W (evPs E xs) σ H Q → t σ H Q) {σ : L2.St} {H : Hp} {Q : VK}
    (h : denE X.K CA W (evX E (.meth m cs ms o xs)) σ H Q) : tMethD X m (WE W) (denP X.K CA W (evP E o)) t σ H Q := by
  obtain ⟨F, G, s, hK, hC, R, P⟩ := h
  refine ⟨F, G, s, hK, hC, R, ?_⟩
  have P : PostE F G σ W Q ((evP E o s).bind fun p s1 => match (s1.look p).bind (dispS m cs) with
    | some f => (evPs E xs s1).bind fun ps s2 => callRun E f ms (p :: ps) s2
    | none => .bad) := P
  cases hm : evP E o s with
  | ok p s1 =>
    rw [hm] at P
    intro v G1 H1 x1 R1 pv
    rw [show ∀ f, (Out.ok p s1 : Out PV).bind f = f p s1 from fun _ => rfl] at P
    cases hl : s1.look p with
    | none => rw [hl] at P; exact P.elim
    | some d =>
      rw [hl] at P
      have P2 : PostE F G σ W Q (match dispS m cs d with
        | some f => (evPs E xs s1).bind fun ps s2 => callRun E f ms (p :: ps) s2
        | none => .bad) := P
      cases hs : dispS m cs d with
      | none => rw [hs] at P2; exact P2.elim
      | some f =>
        rw [hs] at P2
        have P3 : PostE F G σ W Q ((evPs E xs s1).bind fun ps s2 => callRun E f ms (p :: ps) s2) := P2
        clear P2
        cases d <;> first | (cases hs; done) | skip
        rename_i c ns vs
        have hs2 : (if ns.contains m = true then none else cs.lookup c) = some f := hs
        by_cases hn : ns.contains m = true
        · rw [if_pos hn] at hs2; cases hs2
        · rw [if_neg hn] at hs2
          have hn' : ns.contains m = false := by simpa using hn
          obtain ⟨a, C', dx, fs, rfl, e1, e2, rfl, r1⟩ := (R1.look pv hl).obj R1.gh
          have h2 := List.all_eq_true.mp hc _ (lookup_mem' hs2)
          rw [Bool.and_eq_true] at h2
          obtain ⟨h2, h3⟩ := h2
          split at h3
          · rename_i J hJ
            obtain ⟨I, hI⟩ := Option.isSome_iff_exists.mp h2
            obtain ⟨C2, hC2, ok⟩ := C.tab.cls c I hI
            obtain ⟨g, fd, loc, kp, at_, hb, Fn⟩ := C.tab.fns f J hJ
            rw [of_decide_eq_true h3] at loc
            obtain ⟨C3, hC3, me⟩ := loc
            rw [hC2] at hC3
            cases hC3
            rw [hC, hC2] at e1
            cases e1
            refine ⟨2 * n, g, _, fd, J.ps, _, ⟨ok.cl, me, Fn, C.room.mono (by omega), hb⟩, a, dx, fs, rfl, e2, lookup_none hn', ht _ _ _ ⟨F, G1, s1, hK, hC, R1, ?_⟩⟩
            cases hm2 : evPs E xs s1 with
            | ok ps s2 =>
              rw [hm2] at P3
              intro ws G2 H2 x2 R2 pvs
              have P4 : PostE F G σ W Q (callRun E f ms (p :: ps) s2) := P3
              have := call_ok R2 (x1.trans x2) (show PVs F G2 σ (V.ref a :: ws) (p :: ps) from ⟨pv.mono x2, pvs⟩) (fun q hq k => by
                rcases List.mem_cons.mp hq with rfl | hq
                · exact pvs_nobr hm k
                · exact evPs_nobr hm2 q hq k) P4
              rw [hK, hC] at this
              exact this
            | ex c p s1 => rw [hm2] at P3; exact exW.mono x1 P3
            | bad => rw [hm2] at P3; exact P3
          · cases h3
  | ex c p s1 => rw [hm] at P; exact P
  | bad => rw [hm] at P; exact P
theorem s_meth (C : Ctx X Tb N sc fnb n E CA W) {m : Str} {cs : List (Nat × Nat)} {ms : List Bool} {o : Den.X} {xs : XS} {l e : Expr} {es : List Expr} {ap pos : Pos} (hl : (ap.endLine == pos.line) = true) (pa : plainA l = true) (hn : es.length < 20) (hc : methOk Tb m cs = true)
    (h1 : PE X l (denP X.K CA W (evP E o))) (pl : plains (e :: es) = true) (h2 : PA X (e :: es) (denPs X.K CA W (evPs E xs))) : PE X (.Call (.Attribute l m ap) (e :: es) [] pos) (denE X.K CA W (evX E (.meth m cs ms o xs))) :=
  (pe_methD h1 C.tk h2 pl pa hn hl).imp fun σ H Q h => meth_imp C hc (fun _ _ _ q => q) h
theorem s_meth0 (C : Ctx X Tb N sc fnb n E CA W) {m : Str} {cs : List (Nat × Nat)} {ms : List Bool} {o : Den.X} {l : Expr} {ap pos : Pos} (hl : (ap.endLine == pos.line) = true) (pa : plainA l = true) (hc : methOk Tb m cs = true)
    (h1 : PE X l (denP X.K CA W (evP E o))) : PE X (.Call (.Attribute l m ap) [] [] pos) (denE X.K CA W (evX E (.meth m cs ms o .nil))) :=
  (pe_methD0 h1 C.tk pa hl).imp fun σ H Q h => meth_imp C hc (fun σ H Q ⟨F, G, s, hK, hC, R, P⟩ => P [] G H (Evl.Ex.refl _) R trivial) h
theorem s_scall (C : Ctx X Tb N sc fnb n E CA W) {f : Nat} {ms : List Bool} {xs : XS} {x m : Str} {e : Expr} {es : List Expr} {p ap pos : Pos} (hl : (ap.endLine == pos.line) = true) (hn : es.length < 20) (hg : glB sc x = true) (hc : statOk Tb f x m = true) (pl : plains (e :: es) = true)
    (ha : PA X (e :: es) (denPs X.K CA W (evPs E xs))) : PE X (.Call (.Attribute (.Name x p) m ap) (e :: es) [] pos) (denE X.K CA W (evX E (.scall f ms xs))) := by
  obtain ⟨g, ok⟩ := C.gl hg
  obtain ⟨d1, d2, d3⟩ := okName_dbg ok
  unfold statOk at hc
  split at hc
  · rename_i J hJ
    split at hc
    · rename_i c m' hown
      rw [Bool.and_eq_true] at hc
      obtain ⟨hm, hc⟩ := hc
      have hm := of_decide_eq_true hm
      subst hm
      split at hc
      · rename_i I hI
        have hx := of_decide_eq_true hc
        subst hx
        obtain ⟨C2, hC2, cok⟩ := C.tab.cls c I hI
        obtain ⟨q, fd, loc, kp, at_, hb, Fn⟩ := C.tab.fns f J hJ
        rw [hown] at loc
        obtain ⟨C3, hC3, st⟩ := loc
        rw [hC2] at hC3
        cases hC3
        refine (pe_stat (pe_glob g cok.g (v := .ref C2) rfl d1) st kp Fn (C.room.mono (by omega)) hb C.tk ha pl rfl hn hl).imp fun σ H Q ⟨F, G, s, hK, hC, R, P⟩ => ⟨rfl, F, G, s, hK, hC, R, ?_⟩
        have P : PostE F G σ W Q ((evPs E xs s).bind fun ps s1 => callRun E f ms ps s1) := P
        cases hm : evPs E xs s with
        | ok ps s1 =>
          rw [hm] at P
          intro vs G1 H1 x1 R1 pvs
          have := call_ok R1 x1 pvs (evPs_nobr hm) P
          rw [hK, hC] at this
          exact this
        | ex c p s1 => rw [hm] at P; exact P
        | bad => rw [hm] at P; exact P
      · cases hc
    · cases hc
  · cases hc
theorem args_vals {K : PySem.W.Frag} {CA : Nat → Option Addr} {B H H' : Hp} : ∀ {vs : List V} {as : List Arg}, ArgsOk K CA B H vs as [] → ArgsOk K CA B H' vs as []
  | [], [], _ => trivial
  | v :: vs, .val d :: as, ⟨h, t⟩ => ⟨h, args_vals t⟩
  | [], _ :: _, h => by simp [ArgsOk] at h
  | _ :: _, [], h => by simp [ArgsOk] at h
  | _ :: _, .bor _ :: _, h => by simp [ArgsOk] at h
theorem bor_none : ∀ ps : List PV, borPs (ps.map fun _ => false) ps = []
  | [] => rfl
  | p :: ps => by cases p <;> exact bor_none ps
theorem val_all : ∀ ps : List PV, valPs (ps.map fun _ => false) ps = ps
  | [] => rfl
  | p :: ps => by
    have : valPs ((p :: ps).map fun _ => false) (p :: ps) = p :: valPs (ps.map fun _ => false) ps := by cases p <;> rfl
    rw [this, val_all ps]
theorem make_ok {F : Fr} {G0 G H : Hp} {σ : L2.St} {s : S} {E : Env} {W : WX} {Q : VK} {c f : Nat} {C : Addr} {ps : List PV} {vs : List V} (hCA : F.CA c = some C) (R : RS F G H σ s) (x0 : Ex G0 G) (pv : PVs F G σ vs ps) (nb : ∀ p ∈ ps, ∀ k, p ≠ .br k)
    (h : PostE F G0 σ W Q (makeRun E c f ps s)) (x dx : Addr) (hx : H x = none) (hd : H dx = none) (ne : dx ≠ x) :
    spF F.K F.CA (E.cl f) (.ref x :: vs) (upd (upd H dx (.own x)) x (.ins C dx [])) (fun v H2 => v = .non ∧ Q (.ref x) H2) (WE W σ) := by
  unfold makeRun at h
  cases ha : s.args (ps.map fun _ => false) ps with
  | none => rw [ha] at h; exact h.elim
  | some as =>
    rw [ha] at h
    simp only at h
    obtain ⟨rs, pre, hlen, _⟩ := args_pre R nb pv ha
    rw [bor_none] at hlen
    have : rs = [] := List.length_eq_zero_iff.mp hlen
    subst this
    have hup : ∀ {a : Addr} {o : HO}, H a = some o → upd (upd H dx (.own x)) x (.ins C dx []) a = some o := fun {a o} e => by
      rw [upd_ne (ne_of_none e hx), upd_ne (ne_of_none e hd)]; exact e
    have hdn : ∀ {a : Addr}, upd (upd H dx (.own x)) x (.ins C dx []) a = none → H a = none := fun {a} e => by
      cases q : H a with
      | none => rfl
      | some o => rw [hup q] at e; cases e
    -- the state behind the call, by what it left
    have after : ∀ {B G1 G' H' : Hp} {bs : List D} {s1 : S}, RS F G1 H σ s1 → After F.K F.CA B (upd (upd H dx (.own x)) x (.ins C dx [])) [x] G' H' bs → ∀ {a : Addr} {o : HO}, H a = some o → H' a = some o := fun {B G1 G' H' bs s1} R1 A a o e =>
      A.keep a o (by simp; exact ne_of_none e hx) (hup e)
    have moveEnd : ∀ {s1 : S}, s.moves ps = some s1 → ∃ G1, Ex G G1 ∧ RS F G1 H σ s1 ∧ ArgsOk F.K F.CA G1 (upd (upd H dx (.own x)) x (.ins C dx [])) vs as [] := fun {s1} hmv => by
      obtain ⟨G1, x1, R1, hm, nw⟩ := R.moves hmv
      exact ⟨G1, x1, R1, args_vals (args_moved x1 pre (by rw [val_all]; exact hm) (fun r hr => by cases hr))⟩
    have hone : ∀ {B : Hp}, B x = none → ArgsOk F.K F.CA B (upd (upd H dx (.own x)) x (.ins C dx [])) vs as [] → ArgsOk F.K F.CA B (upd (upd H dx (.own x)) x (.ins C dx [])) (.ref x :: vs) (.bor (.obj c [] []) :: as) [x] := fun {B} hb ao =>
      ⟨⟨rfl, .obj (fs := []) hCA upd_same .nil, hb⟩, ao⟩
    split at h
    · rename_i d hret
      split at h
      · exact h.elim
      · rename_i s1 hmv
        obtain ⟨G1, x1, R1, ao⟩ := moveEnd hmv
        have gx := gnone R1.gh hx
        refine ⟨G1, _, [x], (fun a o e => hup (R1.gh a o e)), by simp, hone gx ao, ?_⟩
        rw [hret]
        intro v G' H' A rf
        cases rf
        have R2 : RS F G' H' σ s1 := R1.grow ⟨A.bg, fun a o e => after R1 A e, A.gh, fun a e => (A.new a e).imp id hdn⟩
        obtain ⟨o1, n1⟩ := A.bors 0 x d rfl rfl
        refine ⟨rfl, h (.ref x) G' H' ((x0.trans x1).trans A.bg) R2 ⟨⟨x, rfl, o1, n1, R.h0 hx⟩, fun _ => (by intro z; cases z), fun _ i y e1 e2 => no_slot R1 hx i y e1 e2⟩⟩
    · rename_i c' p q hret
      split at h
      · rename_i hp
        obtain ⟨B, b1, b2, bnw, bok⟩ := peek_world R pre
        refine ⟨B, _, [x], (fun a o e => hup (b2 a o e)), by simp, hone ?_ (args_vals (bok fun r hr => by cases hr)), ?_⟩
        · cases e : B x with
          | none => rfl
          | some o => have := b2 x o e; rw [hx] at this; cases this
        rw [hret]
        intro cls d G' H' A ef
        have R2 : RS F G H' σ s := R.grow ⟨Evl.Ex.refl _, fun a o e => after R A e, fun a o e => after R A (R.gh a o e), fun a e => .inl e⟩
        refine h G H' cls d x0 R2 ?_
        have : p = [] := by cases p with
          | nil => rfl
          | cons _ _ => cases hp
        subst this
        cases ef with
        | non a b => exact .non a b
        | dict a b c d e => exact absurd rfl e
      · split at h
        · exact h.elim
        · rename_i s1 hmv
          obtain ⟨G1, x1, R1, ao⟩ := moveEnd hmv
          have gx := gnone R1.gh hx
          refine ⟨G1, _, [x], (fun a o e => hup (R1.gh a o e)), by simp, hone gx ao, ?_⟩
          rw [hret]
          intro cls d G' H' A ef
          have R2 : RS F G' H' σ s1 := R1.grow ⟨A.bg, fun a o e => after R1 A e, A.gh, fun a e => (A.new a e).imp id hdn⟩
          exact h G' H' cls d ((x0.trans x1).trans A.bg) R2 ef.ok
    · exact h.elim
theorem s_make (C : Ctx X Tb N sc fnb n E CA W) {c f : Nat} {xs : XS} {x : Str} {e : Expr} {es : List Expr} {p pos : Pos} (hg : glB sc x = true) (hc : makeOk Tb c f x = true) (pl : plains (e :: es) = true)
    (ha : PA X (e :: es) (denPs X.K CA W (evPs E xs))) : PE X (.Call (.Name x p) (e :: es) [] pos) (denE X.K CA W (evX E (.make c f xs))) := by
  obtain ⟨g, ok⟩ := C.gl hg
  obtain ⟨d1, d2, d3⟩ := okName_dbg ok
  unfold makeOk at hc
  rw [Bool.and_eq_true] at hc
  obtain ⟨h1, h2⟩ := hc
  split at h1
  · rename_i I hI
    rw [Bool.and_eq_true] at h1
    have hx := of_decide_eq_true h1.1
    subst hx
    split at h2
    · rename_i J hJ
      obtain ⟨C2, hC2, cok⟩ := C.tab.cls c I hI
      obtain ⟨q, fd, loc, kp, at_, hb, Fn⟩ := C.tab.fns f J hJ
      rw [of_decide_eq_true h2] at loc
      obtain ⟨C3, hC3, me⟩ := loc
      rw [hC2] at hC3
      cases hC3
      obtain ⟨k1, k2⟩ := cok.mks h1.2
      refine (pe_makeD ⟨k1, me.at_, me.fn, k2⟩ Fn C.room hb C.tk g cok.g d1 ha pl).imp fun σ H Q ⟨F, G, s, hK, hC, R, P⟩ => ⟨F, G, s, hK, hC, R, ?_⟩
      have P : PostE F G σ W Q ((evPs E xs s).bind fun ps s1 => makeRun E c f ps s1) := P
      cases hm : evPs E xs s with
      | ok ps s1 =>
        rw [hm] at P
        intro vs G1 H1 x1 R1 pvs y dy e1 e2 e3
        have := make_ok (by rw [hC]; exact hC2) R1 x1 pvs (evPs_nobr hm) P y dy e1 e2 e3
        rw [hK, hC] at this
        exact this
      | ex c p s1 => rw [hm] at P; exact P
      | bad => rw [hm] at P; exact P
    · cases h2
  · cases h1
end
end Den
set_option Elab.async false
set_option linter.all false
set_option maxRecDepth 100000
set_option autoImplicit false
set_option maxHeartbeats 4000000
namespace Den
open PySem PySem.Spec PyProof.Rows L2
section
variable {F : Fr} {G H G' H' : Hp} {σ : L2.St} {s s' : S}
/-! ### an object that no name holds, kept from change -/
def Fr.pin (F : Fr) (D : Addr) (o : HO) : Fr := { F with H0 := upd F.H0 D o }
theorem RS.apart (R : RS F G H σ s) {D : Addr} (hn : F.H0 D = none) : D ∉ F.rs := fun m => by
  obtain ⟨u, hu⟩ := R.lent D m
  rw [hn] at hu; cases hu
/-- no name holds it -/
def NoSlot (σ : L2.St) (s : S) (D : Addr) : Prop := ∀ (i : Nat) (y : SV), s.env[i]? = some (some y) → y.mutb = true → σ[i]? ≠ some (some (.ref D))
theorem RS.pin (R : RS F G H σ s) {D : Addr} {o : HO} (hn : F.H0 D = none) (hg : G D = none) (hd : H D = some o) (ns : NoSlot σ s D) : RS (F.pin D o) G H σ s where
  len := R.len
  bh := fun a u e => by
    have hne : a ≠ D := fun z => by
      subst z
      have := R.bg _ _ e
      rw [hg] at this; cases this
    show upd F.H0 D o a = some u
    rw [upd_ne hne]
    exact R.bh a u e
  nd := R.nd
  lent := fun p hp => by
    obtain ⟨u, hu⟩ := R.lent p hp
    refine ⟨u, ?_⟩
    show upd F.H0 D o p = some u
    rw [upd_ne (fun z => R.apart hn (by rw [← z]; exact hp))]
    exact hu
  keep := fun a u m e => by
    have e : upd F.H0 D o a = some u := e
    by_cases z : a = D
    · subst z; rw [upd_same] at e; cases e; exact hd
    · rw [upd_ne z] at e; exact R.keep a u m e
  bg := R.bg
  gh := R.gh
  fresh := fun a h => by
    have hne : a ≠ D := fun z => by subst z; exact h hg
    rcases R.fresh a h with q | q
    · exact .inl q
    · refine .inr ?_
      show upd F.H0 D o a = none
      rw [upd_ne hne]; exact q
  blen := R.blen
  bors := R.bors
  slots := fun i x e => by
    obtain ⟨v, e1, sl⟩ := R.slots i x e
    refine ⟨v, e1, ?_⟩
    cases x with
    | shr d => exact sl
    | bor k => exact sl
    | own d =>
      obtain ⟨p, rfl, o1, n, z⟩ := sl
      refine ⟨p, rfl, o1, n, ?_⟩
      show upd F.H0 D o p = none
      rw [upd_ne (fun w => ns i _ e rfl (by rw [e1, w]))]
      exact z
  inj := R.inj
theorem RS.unpin {D : Addr} {o : HO} (hn : F.H0 D = none) (hb : F.B D = none) (hr : D ∉ F.rs) (R : RS (F.pin D o) G H σ s) : RS F G H σ s ∧ G D = none ∧ H D = some o ∧ NoSlot σ s D := by
  have hg : G D = none := by
    cases q : G D with
    | none => rfl
    | some u =>
      rcases R.fresh D (by rw [q]; exact fun z => nomatch z) with w | w
      · exact absurd hb w
      · have : upd F.H0 D o D = none := w
        rw [upd_same] at this; cases this
  have he : ∀ a u, F.H0 a = some u → (F.pin D o).H0 a = some u := fun a u e => by
    show upd F.H0 D o a = some u
    rw [upd_ne (ne_of_none e hn)]; exact e
  refine ⟨⟨R.len, fun a u e => ?_, R.nd, fun p hp => ?_, fun a u m e => R.keep a u m (he a u e), R.bg, R.gh, fun a h => ?_, R.blen, R.bors, fun i x e => ?_, R.inj⟩, hg, R.keep D o hr upd_same, fun i y e m q => ?_⟩
  · have := R.bh a u e
    have this : upd F.H0 D o a = some u := this
    rw [upd_ne (ne_of_none e hb)] at this
    exact this
  · obtain ⟨u, hu⟩ := R.lent p hp
    have hu : upd F.H0 D o p = some u := hu
    rw [upd_ne (fun z => hr (by rw [← z]; exact hp))] at hu
    exact ⟨u, hu⟩
  · rcases R.fresh a h with q | q
    · exact .inl q
    · refine .inr ?_
      have q : upd F.H0 D o a = none := q
      by_cases z : a = D
      · subst z; rw [upd_same] at q; cases q
      · rw [upd_ne z] at q; exact q
  · obtain ⟨v, e1, sl⟩ := R.slots i x e
    refine ⟨v, e1, ?_⟩
    cases x with
    | shr d => exact sl
    | bor k => exact sl
    | own d =>
      obtain ⟨p, rfl, o1, n, z⟩ := sl
      have z : upd F.H0 D o p = none := z
      refine ⟨p, rfl, o1, n, ?_⟩
      by_cases w : p = D
      · subst w; rw [upd_same] at z; cases z
      · rw [upd_ne w] at z; exact z
  · obtain ⟨v, e1, sl⟩ := R.slots i y e
    rw [e1] at q
    cases q
    cases y with
    | shr d => cases m
    | bor k =>
      obtain ⟨p, e2, e3⟩ := sl
      cases e3
      exact hr (List.mem_of_getElem? e2)
    | own d =>
      obtain ⟨p, e2, _, _, z⟩ := sl
      cases e2
      have z : upd F.H0 D o D = none := z
      rw [upd_same] at z; cases z
/-- an object that no name holds is changed -/
theorem RS.other (R : RS F G H σ s) {D : Addr} {o : HO} (hn : F.H0 D = none) (hg : G D = none) (ns : NoSlot σ s D) : RS F G (upd H D o) σ s where
  len := R.len
  bh := R.bh
  nd := R.nd
  lent := R.lent
  keep := fun a u m e => by rw [upd_ne (ne_of_none e hn)]; exact R.keep a u m e
  bg := R.bg
  gh := Ex.upd_free R.gh hg
  fresh := R.fresh
  blen := R.blen
  bors := fun k p d e1 e2 => by
    obtain ⟨o1, n⟩ := R.bors k p d e1 e2
    have hne : p ≠ D := fun z => R.apart hn (by rw [← z]; exact List.mem_of_getElem? e1)
    exact ⟨o1.mono (Evl.Ex.refl _) fun u q => by rw [upd_ne hne]; exact q, n⟩
  slots := fun i x e => by
    obtain ⟨v, e1, sl⟩ := R.slots i x e
    refine ⟨v, e1, ?_⟩
    cases x with
    | shr d => exact sl
    | bor k => exact sl
    | own d =>
      obtain ⟨p, rfl, o1, n, z⟩ := sl
      have hne : p ≠ D := fun w => ns i _ e rfl (by rw [e1, w])
      exact ⟨p, rfl, o1.mono (Evl.Ex.refl _) fun u q => by rw [upd_ne hne]; exact q, n, z⟩
  inj := R.inj
/-! ### targets -/
theorem wipe_set {i : Nat} {v : Option V} : ∀ {is : List Nat} {σ : L2.St}, i ∈ is → L2.wipe (σ.set i v) is = L2.wipe σ is
  | [], _, h => by cases h
  | j :: is, σ, h => by
    unfold L2.wipe
    by_cases e : i ∈ is
    · rw [wipe_set e]
    · have hj : i = j := by
        rcases List.mem_cons.mp h with h | h
        · exact h
        · exact absurd h e
      subst hj
      -- the set is overwritten
      have comm : ∀ (ks : List Nat) (τ : L2.St), i ∉ ks → L2.wipe (τ.set i v) ks = (L2.wipe τ ks).set i v := by
        intro ks
        induction ks with
        | nil => intro τ _; rfl
        | cons k ks ih =>
          intro τ hk
          simp only [List.mem_cons, not_or] at hk
          unfold L2.wipe
          rw [ih τ hk.2, List.set_comm _ _ hk.1]
      rw [comm is σ e, List.set_set]
end
def gDen (K : PySem.W.Frag) (CA : Nat → Option Addr) (t : Tg) : TG := fun v σ H Q => ∃ F G s d s', F.K = K ∧ F.CA = CA ∧ RS F G H σ s ∧ Rep F.K F.CA G v d ∧ S.asg t d s = some s' ∧
  ∀ σ' G' H', Ex G G' → RS F G' H' σ' s' → (∀ vs, tgIn vs t = true → L2.wipe σ' vs = L2.wipe σ vs) → Q σ' H'
def gsDen (K : PySem.W.Frag) (CA : Nat → Option Addr) (ts : List Tg) : TGs := fun vs σ H Q => ∃ F G s ds s', F.K = K ∧ F.CA = CA ∧ RS F G H σ s ∧ Reps F.K F.CA G vs ds ∧ S.asgs ts ds s = some s' ∧
  ∀ σ' G' H', Ex G G' → RS F G' H' σ' s' → (∀ vs, tgsIn vs ts = true → L2.wipe σ' vs = L2.wipe σ vs) → Q σ' H'
section
variable {X : Cx} {Tb : Tab} {N : List Str} {sc : Scope} {fnb : Str → Bool} {n : Nat} {E : Env} {CA : Nat → Option Addr} {W : WX}
theorem _root_.L2.PG.imp {e : Expr} {t t' : TG} (h : PG X e t) (i : ∀ v σ H Q, t' v σ H Q → t v σ H Q) : PG X e t' := ⟨fun pins s σ H v u Q I r q => h.run pins s σ H v u Q I r (i v σ H Q q)⟩
theorem _root_.L2.PGs.imp {e : List Expr} {t t' : TGs} (h : PGs X e t) (i : ∀ v σ H Q, t' v σ H Q → t v σ H Q) : PGs X e t' := ⟨fun pins s σ H v u Q I r q => h.run pins s σ H v u Q I r (i v σ H Q q)⟩
theorem each_of {env : PySem.Env} : ∀ {es : List Expr} {ts : List Tg}, chkTgs N sc fnb ts es = true → (assignEach es env).length = ts.length ∧ (assignEach es env).findIdx? (·.1) = none
  | [], [], _ => ⟨rfl, rfl⟩
  | e :: es, t :: ts, h => by
    unfold chkTgs at h
    rw [Bool.and_eq_true, Bool.and_eq_true] at h
    obtain ⟨a, b⟩ := each_of (env := env) h.2
    have : assignEach (e :: es) env = (false, assign e env) :: assignEach es env := by
      cases e <;> first | rfl | (exact Bool.noConfusion h.1.1)
    rw [this]
    refine ⟨by simp [a], ?_⟩
    rw [List.findIdx?_cons]
    simp [b]
  | [], _ :: _, h => by simp [chkTgs] at h
  | _ :: _, [], h => by simp [chkTgs] at h
mutual
theorem sTg (C : Ctx X Tb N sc fnb n E CA W) : ∀ (t : Tg) (e : Expr), chkTg N sc fnb t e = true → PG X e (gDen X.K CA t)
  | .nm i, e, h => by
    cases e <;> first | (simp [chkTg] at h; done) | skip
    rename_i x pos
    unfold chkTg at h
    rw [Bool.and_eq_true, Bool.and_eq_true, decide_eq_true_eq, Bool.or_eq_true, Bool.and_eq_true, decide_eq_true_eq, decide_eq_true_eq] at h
    obtain ⟨⟨h1, h2⟩, h3⟩ := h
    have hl : Loc X.env.scope x := by
      rw [C.hsc]
      rcases h3 with h3 | h3
      · exact .inl h3
      · exact .inr h3.1
    have hf : X.fn x = true ∨ X.env.scope.names.lookup x = some .local := by
      rcases h3 with h3 | h3
      · exact .inr (by rw [C.hsc]; exact h3)
      · exact .inl (by rw [C.hfn]; exact h3.2)
    refine (pg_name (by rw [C.hN]; exact C.nd) (by rw [C.hN]; exact h2) hl hf).imp fun v σ H Q ⟨F, G, s, d, s', hK, hC, R, r, ha, P⟩ => ?_
    cases ha
    exact P _ G H (Evl.Ex.refl _) (R.put (Res.shr r)) fun vs hv => wipe_set (List.contains_iff_mem.mp hv)
  | .tup ts, e, h => by
    cases e <;> first | (simp [chkTg] at h; done) | skip
    rename_i es k pos
    have h : chkTgs N sc fnb ts es = true := h
    obtain ⟨e1, e2⟩ := each_of (env := X.env) h
    refine (pg_tup C.calm (sTgs C ts es h) e1 e2).imp fun v σ H Q ⟨F, G, s, d, s', hK, hC, R, r, ha, P⟩ => ?_
    cases d <;> first | (cases ha; done) | skip
    rename_i ds
    have ha : S.asgs ts ds s = some s' := ha
    obtain ⟨p, vs, rfl, h1, r1⟩ := (Pk.g r : Pk F G H v _).tup R.gh
    have hlen : ds.length = ts.length := by
      have : ∀ {ts : List Tg} {ds : List D} {s s' : S}, S.asgs ts ds s = some s' → ds.length = ts.length := by
        intro ts
        induction ts with
        | nil => intro ds s s' h; cases ds with
          | nil => rfl
          | cons _ _ => cases h
        | cons t ts ih => intro ds s s' h; cases ds with
          | nil => cases h
          | cons d ds =>
            have h : ((S.asg t d s).bind fun s' => S.asgs ts ds s') = some s' := h
            cases hq : S.asg t d s with
            | none => rw [hq] at h; cases h
            | some s2 => rw [hq] at h; simp [ih (show S.asgs ts ds s2 = some s' from h)]
      exact this ha
    rw [hK] at h1
    exact ⟨p, vs, rfl, h1, by rw [r1.length]; exact hlen, F, G, s, ds, s', hK, hC, R, r1, ha, P⟩
theorem sTgs (C : Ctx X Tb N sc fnb n E CA W) : ∀ (ts : List Tg) (es : List Expr), chkTgs N sc fnb ts es = true → PGs X es (gsDen X.K CA ts)
  | [], es, h => by
    cases es with
    | cons _ _ => simp [chkTgs] at h
    | nil =>
      refine pgs_nil.imp fun vs σ H Q ⟨F, G, s, ds, s', hK, hC, R, r, ha, P⟩ => ?_
      cases ds with
      | cons _ _ => cases ha
      | nil =>
        cases r
        cases ha
        exact ⟨rfl, P σ G H (Evl.Ex.refl _) R fun _ _ => rfl⟩
  | t :: ts, es, h => by
    cases es with
    | nil => simp [chkTgs] at h
    | cons e es =>
      unfold chkTgs at h
      rw [Bool.and_eq_true, Bool.and_eq_true] at h
      refine (pgs_cons (sTg C t e h.1.2) (sTgs C ts es h.2) (by
        have : ∀ env, assignEach (e :: es) env = (false, assign e env) :: assignEach es env := fun env => by
          cases e <;> first | rfl | (exact Bool.noConfusion h.1.1)
        rw [this]; rfl)).imp fun vs σ H Q ⟨F, G, s, ds, s', hK, hC, R, r, ha, P⟩ => ?_
      cases ds with
      | nil => cases ha
      | cons d ds =>
        cases r with
        | cons r1 r2 =>
          have ha : ((S.asg t d s).bind fun s' => S.asgs ts ds s') = some s' := ha
          cases hq : S.asg t d s with
          | none => rw [hq] at ha; cases ha
          | some s2 =>
            rw [hq] at ha
            refine ⟨_, _, rfl, F, G, s, d, s2, hK, hC, R, r1, hq, fun σ1 G1 H1 x1 R1 w1 => ⟨F, G1, s2, ds, s', hK, hC, R1, r2.mono x1, ha, fun σ2 G2 H2 x2 R2 w2 => P σ2 G2 H2 (x1.trans x2) R2 fun vs hv => ?_⟩⟩
            unfold tgsIn at hv
            rw [Bool.and_eq_true] at hv
            rw [w2 vs hv.2, w1 vs hv.1]
end
end
end Den
set_option Elab.async false
set_option linter.all false
set_option maxRecDepth 100000
set_option autoImplicit false
set_option maxHeartbeats 4000000
namespace Den
open PySem PySem.Spec PyProof.Rows L2
theorem ite_some {α : Type} {c : Prop} [Decidable c] {a b : α} (h : (if c then some a else none) = some b) : c ∧ a = b := by
  split at h
  · cases h; exact ⟨by assumption, rfl⟩
  · cases h
/-! ### methods that change -/
def rMu (K : PySem.W.Frag) (CA : Nat → Option Addr) (m : Mu) (i : Nat) : V → List V → Hp → VK → Prop := fun x vs H Q => ∃ F G σ s ds d0 d r s2, F.K = K ∧ F.CA = CA ∧ RS F G H σ s ∧ σ[i]? = some (some x) ∧ Reps F.K F.CA G vs ds ∧ s.look (.at i) = some d0 ∧ muSem m d0 ds = some (d, r) ∧ s.store i d = some s2 ∧
  ∀ v H', RS F G H' σ s2 → Rep F.K F.CA G v r → Q v H'
section
variable {X : Cx} {CA : Nat → Option Addr}
/-- the list that a name holds -/
theorem mu_list {F : Fr} {G H : Hp} {σ : L2.St} {s s2 : S} {i : Nat} {x : V} {xs : List D} {d : D} (R : RS F G H σ s) (hx : σ[i]? = some (some x)) (hl : s.look (.at i) = some (.lst xs)) (hs : s.store i d = some s2) :
    ∃ p vs, x = .ref p ∧ H p = some (.lst vs) ∧ Reps F.K F.CA G vs xs ∧ ∀ (ys : List D) (ws : List V), d = .lst ys → Reps F.K F.CA G ws ys → RS F G (upd H p (.lst ws)) σ s2 := by
  obtain ⟨p, vs, rfl, h1, r1⟩ := (R.look (show PVOk F G σ x (.at i) from hx) hl).lst R.gh
  obtain ⟨p', e1, n, k⟩ := R.store hs
  rw [hx] at e1
  cases e1
  refine ⟨p, vs, rfl, h1, r1, fun ys ws hd hw => ?_⟩
  subst hd
  exact k _ (.lst upd_same hw)
theorem m_append {i : Nat} : MtR X "list.append" (rMu X.K CA .append i) := by
  intro pins s σ H x vs v us Q I rx rv ⟨F, G, σ', s', ds, d0, d, r, s2, hK, hC, R, hx, hr, hl, hm, hs, q⟩
  cases d0 <;> first | (cases hm; done) | skip
  rename_i xs
  match ds, hm with
  | [e], hm =>
    obtain ⟨hz, hm⟩ := ite_some (show (if xs.length < lim then some (D.lst (xs ++ [e]), D.non) else none) = some (d, r) from hm)
    cases hm
    obtain ⟨p, ws, rfl, h1, r1, k⟩ := mu_list R hx hl hs
    cases hr with
    | cons ra rt =>
      cases rt
      exact mt_append pins s σ H _ _ v us Q I rx rv ⟨p, ws, _, rfl, rfl, h1, by rw [r1.length]; exact szl hz, q _ _ (k _ _ rfl (r1.append (.one ra))) .non⟩
theorem m_reverse {i : Nat} : MtR X "list.reverse" (rMu X.K CA .reverse i) := by
  intro pins s σ H x vs v us Q I rx rv ⟨F, G, σ', s', ds, d0, d, r, s2, hK, hC, R, hx, hr, hl, hm, hs, q⟩
  cases d0 <;> first | (cases hm; done) | skip
  match ds, hm with
  | [], hm =>
    cases hm
    obtain ⟨p, ws, rfl, h1, r1, k⟩ := mu_list R hx hl hs
    cases hr
    exact mt_reverse pins s σ H _ _ v us Q I rx rv ⟨p, ws, rfl, rfl, h1, q _ _ (k _ _ rfl r1.reverse) .non⟩
theorem m_clear {i : Nat} : MtR X "list.clear" (rMu X.K CA .clear i) := by
  intro pins s σ H x vs v us Q I rx rv ⟨F, G, σ', s', ds, d0, d, r, s2, hK, hC, R, hx, hr, hl, hm, hs, q⟩
  cases d0 <;> first | (cases hm; done) | skip
  match ds, hm with
  | [], hm =>
    cases hm
    obtain ⟨p, ws, rfl, h1, r1, k⟩ := mu_list R hx hl hs
    cases hr
    exact mt_clear pins s σ H _ _ v us Q I rx rv ⟨p, ws, rfl, rfl, h1, q _ _ (k _ _ rfl .nil) .non⟩
theorem m_pop {i : Nat} : MtR X "list.pop" (rMu X.K CA .pop i) := by
  intro pins s σ H x vs v us Q I rx rv ⟨F, G, σ', s', ds, d0, d, r, s2, hK, hC, R, hx, hr, hl, hm, hs, q⟩
  cases d0 <;> first | (cases hm; done) | skip
  rename_i xs
  match ds, hm with
  | [], hm =>
    have hm : ((xs.getLast?).map fun e => (D.lst xs.dropLast, e)) = some (d, r) := hm
    cases hg : xs.getLast? with
    | none => rw [hg] at hm; cases hm
    | some e =>
      rw [hg] at hm
      cases hm
      obtain ⟨p, ws, rfl, h1, r1, k⟩ := mu_list R hx hl hs
      cases hr
      rw [List.getLast?_eq_getElem?] at hg
      obtain ⟨w, w1, w2⟩ := r1.get hg
      exact mt_pop pins s σ H _ _ v us Q I rx rv ⟨p, ws, w, rfl, rfl, h1, by rw [r1.length]; exact w1, q _ _ (k _ _ rfl r1.dropLast) w2⟩
theorem m_popat {i : Nat} : MtR X "list.pop" (rMu X.K CA .popat i) := by
  intro pins s σ H x vs v us Q I rx rv ⟨F, G, σ', s', ds, d0, d, r, s2, hK, hC, R, hx, hr, hl, hm, hs, q⟩
  cases d0 <;> first | (cases hm; done) | skip
  rename_i xs
  match ds, hm with
  | [.int j], hm =>
    have hm : (if 0 ≤ j ∧ j < xs.length ∧ j < 2 ^ 62 then (xs[j.toNat]?).map fun e => (D.lst (xs.eraseIdx j.toNat), e) else none) = some (d, r) := hm
    split at hm
    · rename_i hj
      cases hg : xs[j.toNat]? with
      | none => rw [hg] at hm; cases hm
      | some e =>
        rw [hg] at hm
        cases hm
        obtain ⟨p, ws, rfl, h1, r1, k⟩ := mu_list R hx hl hs
        cases hr with
        | cons ra rt =>
          cases ra
          cases rt
          obtain ⟨w, w1, w2⟩ := r1.get hg
          refine mt_popAt pins s σ H _ _ v us Q I rx rv ⟨p, ws, j, j.toNat, w, rfl, rfl, h1, by omega, by omega, ?_, w1, q _ _ (k _ _ rfl (r1.eraseIdx _)) w2⟩
          unfold seqIndex?
          rw [r1.length]
          have h0 : ¬ j < 0 := by omega
          simp [h0, hj.1, hj.2.1]
    · cases hm
theorem insert_eq {α : Type} (x : α) : ∀ (k : Nat) (xs : List α), k ≤ xs.length → xs.insertIdx k x = xs.take k ++ [x] ++ xs.drop k
  | 0, xs, _ => by simp
  | k + 1, [], h => by simp at h
  | k + 1, y :: xs, h => by
    rw [List.insertIdx_succ_cons, insert_eq x k xs (by simpa using h)]
    simp
theorem m_insert {i : Nat} : MtR X "list.insert" (rMu X.K CA .insert i) := by
  intro pins s σ H x vs v us Q I rx rv ⟨F, G, σ', s', ds, d0, d, r, s2, hK, hC, R, hx, hr, hl, hm, hs, q⟩
  cases d0 <;> first | (cases hm; done) | skip
  rename_i xs
  match ds, hm with
  | [.int j, e], hm =>
    obtain ⟨hj, hm⟩ := ite_some (show (if 0 ≤ j ∧ j ≤ xs.length ∧ xs.length < lim then some (D.lst (xs.insertIdx j.toNat e), D.non) else none) = some (d, r) from hm)
    cases hm
    obtain ⟨p, ws, rfl, h1, r1, k⟩ := mu_list R hx hl hs
    cases hr with
    | cons ra rt =>
      cases ra
      cases rt with
      | cons rb rt =>
        cases rt
        have hlen := r1.length
        have hlim : lim = 1000000 := rfl
        refine mt_insert pins s σ H _ _ v us Q I rx rv ⟨p, ws, j, _, rfl, rfl, h1, by rw [hlen]; exact szl hj.2.2, hj.1, by omega, ?_⟩
        rw [← insert_eq _ _ _ (by omega)]
        exact q _ _ (k _ _ rfl (r1.insertIdx rb _)) .non
theorem m_extend {i : Nat} : MtR X "list.extend" (rMu X.K CA .extend i) := by
  intro pins s σ H x vs v us Q I rx rv ⟨F, G, σ', s', ds, d0, d, r, s2, hK, hC, R, hx, hr, hl, hm, hs, q⟩
  cases d0 <;> first | (cases hm; done) | skip
  rename_i xs
  match ds, hm with
  | [.lst ys], hm =>
    obtain ⟨hz, hm⟩ := ite_some (show (if xs.length + ys.length ≤ lim then some (D.lst (xs ++ ys), D.non) else none) = some (d, r) from hm)
    cases hm
    obtain ⟨p, ws, rfl, h1, r1, k⟩ := mu_list R hx hl hs
    cases hr with
    | cons ra rt =>
      cases rt
      cases ra with
      | lst h2 r2 =>
        exact mt_extend pins s σ H _ _ v us Q I rx rv ⟨p, _, ws, _, rfl, rfl, h1, R.gh _ _ h2, by rw [r1.length, r2.length]; exact sz hz, q _ _ (k _ _ rfl (r1.append r2)) .non⟩
end
section
variable {X : Cx} {Tb : Tab} {N : List Str} {sc : Scope} {fnb : Str → Bool} {n : Nat} {E : Env} {CA : Nat → Option Addr} {W : WX}
theorem s_mut_imp {m : Mu} {i : Nat} {xs : XS} {σ : L2.St} {H : Hp} {Q : VK} (h : denE X.K CA W (evX E (.mut m i xs)) σ H Q) : tBM X.K "list" (rMu X.K CA m i) (tVar i) (denMs X.K CA W (evMs E xs)) σ H Q := by
  obtain ⟨F, G, s, hK, hC, R, P⟩ := h
  have P : PostE F G σ W Q (match s.look (.at i) with
    | some (.lst _) => (evMs E xs s).bind fun ds s1 => match (s1.look (.at i)).bind fun d => muSem m d ds with
      | some (d, r) => match s1.store i d with
        | some s2 => .ok (.shr r) s2
        | none => .bad
      | none => .bad
    | _ => .bad) := P
  split at P
  · rename_i ys hl0
    have hsl : ∃ y, s.slot i = some y := by
      have hl0 : (s.slot i).bind s.data = some (.lst ys) := hl0
      cases hs : s.slot i with
      | none => rw [hs] at hl0; cases hl0
      | some y => exact ⟨y, rfl⟩
    obtain ⟨y, hy⟩ := hsl
    obtain ⟨v, e1, _⟩ := R.slots i y (slot_env hy)
    obtain ⟨p, vs, rfl, h1, r1⟩ := (R.look (show PVOk F G σ v (.at i) from e1) hl0).lst R.gh
    refine ⟨.ref p, e1, .inl ⟨rfl, _, SqL.of h1⟩, F, G, s, hK, hC, R, ?_⟩
    cases hm : evMs E xs s with
    | ok ds s1 =>
      rw [hm] at P
      intro ws G1 H1 x1 R1 rs
      rw [show ∀ f, (Out.ok ds s1 : Out (List D)).bind f = f ds s1 from fun _ => rfl] at P
      cases hl : s1.look (.at i) with
      | none => rw [hl] at P; exact P.elim
      | some d0 =>
        rw [hl] at P
        have P : PostE F G σ W Q (match muSem m d0 ds with
          | some (d, r) => match s1.store i d with
            | some s2 => .ok (.shr r) s2
            | none => .bad
          | none => .bad) := P
        split at P
        · rename_i d r hmu
          split at P
          · rename_i s2 hst
            exact ⟨F, G1, σ, s1, ds, d0, d, r, s2, hK, hC, R1, e1, rs, hl, hmu, hst, fun v' H' R2 rr => P v' G1 H' x1 R2 (Res.shr rr)⟩
          · exact P.elim
        · exact P.elim
    | ex c p s1 => rw [hm] at P; exact P
    | bad => rw [hm] at P; exact P
  · exact P.elim
theorem attr_name {x : Str} {p : Pos} (nm : Str) (env : PySem.Env) (w : Sem Value) : attributeBase (.Name x p) nm env w = w := rfl
theorem s_mut0 (C : Ctx X Tb N sc fnb n E CA W) {m : Mu} {i : Nat} {x : Str} {p ap cp : Pos} (hl : (ap.endLine == cp.line) = true) (hn : nameB N sc i x = true) (hm : m = .pop ∨ m = .reverse ∨ m = .clear) :
    PE X (.Call (.Attribute (.Name x p) m.name ap) [] [] cp) (denE X.K CA W (evX E (.mut m i .nil))) := by
  have key : PE X (.Call (.Attribute (.Name x p) m.name ap) [] [] cp) (tBM0 X.K "list" (rMu X.K CA m i) (tVar i)) := by
    rcases hm with rfl | rfl | rfl
    · exact pe_bm0 PySem.F.plainAttrs_list PySem.F.slot_list_pop PySem.F.type_list_pop (m_pop (CA := CA)) (s_name C hn) (attr_name _ _ _) hl
    · exact pe_bm0 PySem.F.plainAttrs_list PySem.F.slot_list_reverse PySem.F.type_list_reverse (m_reverse (CA := CA)) (s_name C hn) (attr_name _ _ _) hl
    · exact pe_bm0 PySem.F.plainAttrs_list PySem.F.slot_list_clear PySem.F.type_list_clear (m_clear (CA := CA)) (s_name C hn) (attr_name _ _ _) hl
  refine key.imp fun σ H Q h => ?_
  obtain ⟨v, e1, ty, F, G, s, hK, hC, R, P⟩ := s_mut_imp h
  exact ⟨v, e1, ty, P [] G H (Evl.Ex.refl _) R .nil⟩
theorem s_mut1 (C : Ctx X Tb N sc fnb n E CA W) {m : Mu} {i : Nat} {x : Str} {p ap cp : Pos} {e : Expr} {es : List Expr} {xs : XS} (hl : (ap.endLine == cp.line) = true) (hn : nameB N sc i x = true) (hm : m ≠ .pop ∧ m ≠ .reverse ∧ m ≠ .clear) (hlen : es.length < 20)
    (pl : plains (e :: es) = true) (ha : PA X (e :: es) (denMs X.K CA W (evMs E xs))) : PE X (.Call (.Attribute (.Name x p) m.name ap) (e :: es) [] cp) (denE X.K CA W (evX E (.mut m i xs))) := by
  have pl' : plain e = true := by unfold plains at pl; rw [Bool.and_eq_true] at pl; exact pl.1
  have pl2 : plains es = true := by unfold plains at pl; rw [Bool.and_eq_true] at pl; exact pl.2
  have few := few_of (cp := cp) (env := X.env) pl (by simp; omega)
  refine PE.imp (t := tBM X.K "list" (rMu X.K CA m i) (tVar i) (denMs X.K CA W (evMs E xs))) ?_ fun σ H Q h => s_mut_imp h
  cases m with
  | append => exact pe_bm PySem.F.plainAttrs_list PySem.F.slot_list_append PySem.F.type_list_append (m_append (CA := CA)) (s_name C hn) ha (attr_name _ _ _) few hl (star_of pl' _ _) (any_of pl2)
  | insert => exact pe_bm PySem.F.plainAttrs_list PySem.F.slot_list_insert PySem.F.type_list_insert (m_insert (CA := CA)) (s_name C hn) ha (attr_name _ _ _) few hl (star_of pl' _ _) (any_of pl2)
  | popat => exact pe_bm PySem.F.plainAttrs_list PySem.F.slot_list_pop PySem.F.type_list_pop (m_popat (CA := CA)) (s_name C hn) ha (attr_name _ _ _) few hl (star_of pl' _ _) (any_of pl2)
  | extend => exact pe_bm PySem.F.plainAttrs_list PySem.F.slot_list_extend PySem.F.type_list_extend (m_extend (CA := CA)) (s_name C hn) ha (attr_name _ _ _) few hl (star_of pl' _ _) (any_of pl2)
  | pop => exact absurd rfl hm.1
  | reverse => exact absurd rfl hm.2.1
  | clear => exact absurd rfl hm.2.2
/-! ### tests -/
theorem t_x {e : Den.X} {f : Expr} (pt : plainT f = true) (h : PE X f (denP X.K CA W (evP E e))) : PT X f (denT X.K CA W (evT E (.x e))) := by
  refine (pt_truth h (fun w => true_of pt _ w)).imp fun σ H Q ⟨F, G, s, hK, hC, R, P⟩ => ⟨F, G, s, hK, hC, R, ?_⟩
  have P : PostT F G σ W Q ((evP E e s).bind fun p s1 => .opt s1 ((s1.look p).bind D.truth)) := P
  cases hm : evP E e s with
  | ok p s1 =>
    rw [hm] at P
    intro v G1 H1 x1 R1 pv
    have P : PostT F G σ W Q (.opt s1 ((s1.look p).bind D.truth)) := P
    cases hl : s1.look p with
    | none => rw [hl] at P; exact P.elim
    | some d =>
      rw [hl] at P
      have P : PostT F G σ W Q (.opt s1 d.truth) := P
      cases ht : d.truth with
      | none => rw [ht] at P; exact P.elim
      | some b =>
        rw [ht] at P
        exact ⟨b, by rw [← hK]; exact (R1.look pv hl).tru R1 ht, P G1 H1 x1 R1⟩
  | ex c p s1 => rw [hm] at P; exact P
  | bad => rw [hm] at P; exact P
theorem t_isN {neg : Bool} {a : Den.X} {l : Expr} {k : Nat} {pos pos' : Pos} {op : CmpOp} (ho : op = if neg = true then .IsNot else .Is) (h1 : PE X l (denP X.K CA W (evP E a))) :
    PT X (.Compare l [op] [.Constant .none k pos'] pos) (denT X.K CA W (evT E (.isN neg a))) := by
  have go : ∀ {r : R2} {bo : D → Bool}, OpR X (compareOp op) r → (∀ {F : Fr} {G H : Hp} {σ : L2.St} {s : S} {v : V} {d : D} {Q : VK}, F.K = X.K → F.CA = CA → RS F G H σ s → Pk F G H v d → Q (.bl (bo d)) H → r v .non H Q) → (∀ d, bo d = if neg = true then !decide (d = D.non) else decide (d = .non)) →
      PT X (.Compare l [op] [.Constant .none k pos'] pos) (denT X.K CA W (evT E (.isN neg a))) := fun {r bo} rule hr hb => by
    refine (pt_cmpR rule h1 pe_non (behind_of rfl op)).imp fun σ H Q ⟨F, G, s, hK, hC, R, P⟩ => ⟨F, G, s, hK, hC, R, ?_⟩
    have P : PostT F G σ W Q ((evP E a s).bind fun p s1 => .opt s1 ((s1.look p).map fun d => if neg = true then !decide (d = D.non) else decide (d = .non))) := P
    cases hm : evP E a s with
    | ok p s1 =>
      rw [hm] at P
      intro v G1 H1 x1 R1 pv
      have P : PostT F G σ W Q (.opt s1 ((s1.look p).map fun d => if neg = true then !decide (d = D.non) else decide (d = .non))) := P
      cases hl : s1.look p with
      | none => rw [hl] at P; exact P.elim
      | some d =>
        rw [hl] at P
        exact hr hK hC R1 (R1.look pv hl) ⟨_, rfl, by rw [hb d]; exact P G1 H1 x1 R1⟩
    | ex c p s1 => rw [hm] at P; exact P
    | bad => rw [hm] at P; exact P
  cases neg with
  | false =>
    subst ho
    exact go (r := fun x y H Q => y = .non ∧ Q (.bl (decide (x = .non))) H) (bo := fun d => decide (d = .non)) op_isN (fun _ _ _ pk q => ⟨rfl, by rw [pk.isN]; exact q⟩) fun d => rfl
  | true =>
    subst ho
    exact go (r := fun x y H Q => y = .non ∧ Q (.bl (!decide (x = .non))) H) (bo := fun d => !decide (d = .non)) op_notN (fun _ _ _ pk q => ⟨rfl, by rw [pk.isN]; exact q⟩) fun d => rfl
theorem t_cmp (C : Ctx X Tb N sc fnb n E CA W) {o : Op} {a b : Den.X} {l r : Expr} {p : CmpOp} {pos : Pos} (ho : copOf o = some p) (pr : plain r = true) (h1 : PE X l (denP X.K CA W (evP E a))) (h2 : PE X r (denP X.K CA W (evP E b))) :
    PT X (.Compare l [p] [r] pos) (denT X.K CA W (evT E (.cmp o a b))) := by
  refine (pt_cmpR (cmpR C ho) h1 h2 (behind_of pr p)).imp fun σ H Q ⟨F, G, s, hK, hC, R, P⟩ => ⟨F, G, s, hK, hC, R, ?_⟩
  have P : PostT F G σ W Q ((evP E a s).bind fun x s1 => (evP E b s1).bind fun y s2 => match (s2.looks [x, y]).bind (opSem o) with
    | some (.shr (.bl b)) => .ok b s2
    | _ => .bad) := P
  cases hm : evP E a s with
  | ok p1 s1 =>
    rw [hm] at P
    refine fun v G1 H1 x1 R1 pv => ⟨F, G1, s1, hK, hC, R1, ?_⟩
    rw [show ∀ f, (Out.ok p1 s1 : Out PV).bind f = f p1 s1 from fun _ => rfl] at P
    cases hm2 : evP E b s1 with
    | ok p2 s2 =>
      rw [hm2] at P
      intro w G2 H2 x2 R2 pv2
      rw [show ∀ f, (Out.ok p2 s2 : Out PV).bind f = f p2 s2 from fun _ => rfl] at P
      cases hl : s2.looks [p1, p2] with
      | none => rw [hl] at P; exact P.elim
      | some ds =>
        rw [hl] at P
        have P : PostT F G σ W Q (match opSem o ds with
          | some (.shr (.bl b)) => .ok b s2
          | _ => .bad) := P
        split at P
        · rename_i b ho
          exact ⟨F, G2, σ, s2, ds, _, hK, hC, R2, R2.looks (show PVs F G2 σ [v, w] [p1, p2] from ⟨pv.mono x2, pv2, trivial⟩) hl, ho, fun z G' H' g res => ⟨b, Rep.bl' res.1, P G' H' ((x1.trans x2).trans g.g) (R2.grow g)⟩⟩
        · exact P.elim
    | ex c p s1 => rw [hm2] at P; exact exW.mono x1 P
    | bad => rw [hm2] at P; exact P
  | ex c p s1 => rw [hm] at P; exact P
  | bad => rw [hm] at P; exact P
theorem t_cmp2 (C : Ctx X Tb N sc fnb n E CA W) {o p : Op} {a b c : Den.X} {l r q : Expr} {op pp : CmpOp} {pos : Pos} (h1 : copOf o = some op) (h2 : copOf p = some pp) (pq : plain q = true) (pl : PE X l (denP X.K CA W (evP E a))) (pr : PE X r (denP X.K CA W (evP E b))) (pc : PE X q (denP X.K CA W (evP E c))) :
    PT X (.Compare l [op, pp] [r, q] pos) (denT X.K CA W (evT E (.cmp2 o p a b c))) := by
  refine (pt_chain (cmpR C h1) (cmpR C h2) pl pr pc (last_of pq _ _)).imp fun σ H Q ⟨F, G, s, hK, hC, R, P⟩ => ⟨F, G, s, hK, hC, R, ?_⟩
  have P : PostT F G σ W Q ((evP E a s).bind fun x s1 => (evP E b s1).bind fun y s2 => match (s2.looks [x, y]).bind (opSem o) with
    | some (.shr (.bl true)) => (evP E c s2).bind fun z s3 => match (s3.looks [y, z]).bind (opSem p) with
      | some (.shr (.bl b)) => .ok b s3
      | _ => .bad
    | some (.shr (.bl false)) => .ok false s2
    | _ => .bad) := P
  cases hm : evP E a s with
  | ok p1 s1 =>
    rw [hm] at P
    refine fun v G1 H1 x1 R1 pv => ⟨F, G1, s1, hK, hC, R1, ?_⟩
    rw [show ∀ f, (Out.ok p1 s1 : Out PV).bind f = f p1 s1 from fun _ => rfl] at P
    cases hm2 : evP E b s1 with
    | ok p2 s2 =>
      rw [hm2] at P
      intro w G2 H2 x2 R2 pv2
      rw [show ∀ f, (Out.ok p2 s2 : Out PV).bind f = f p2 s2 from fun _ => rfl] at P
      cases hl : s2.looks [p1, p2] with
      | none => rw [hl] at P; exact P.elim
      | some ds =>
        rw [hl] at P
        have P : PostT F G σ W Q (match opSem o ds with
          | some (.shr (.bl true)) => (evP E c s2).bind fun z s3 => match (s3.looks [p2, z]).bind (opSem p) with
            | some (.shr (.bl b)) => .ok b s3
            | _ => .bad
          | some (.shr (.bl false)) => .ok false s2
          | _ => .bad) := P
        split at P
        · rename_i ho
          refine ⟨F, G2, σ, s2, ds, _, hK, hC, R2, R2.looks (show PVs F G2 σ [v, w] [p1, p2] from ⟨pv.mono x2, pv2, trivial⟩) hl, ho, fun z G' H' g res => ⟨true, Rep.bl' res.1, ?_⟩⟩
          rw [if_pos rfl]
          refine ⟨F, G', s2, hK, hC, R2.grow g, ?_⟩
          cases hm3 : evP E c s2 with
          | ok p3 s3 =>
            rw [hm3] at P
            intro u G3 H3 x3 R3 pv3
            rw [show ∀ f, (Out.ok p3 s3 : Out PV).bind f = f p3 s3 from fun _ => rfl] at P
            cases hl3 : s3.looks [p2, p3] with
            | none => rw [hl3] at P; exact P.elim
            | some es =>
              rw [hl3] at P
              have P : PostT F G σ W Q (match opSem p es with
                | some (.shr (.bl b)) => .ok b s3
                | _ => .bad) := P
              split at P
              · rename_i b hp
                exact ⟨F, G3, σ, s3, es, _, hK, hC, R3, R3.looks (show PVs F G3 σ [w, u] [p2, p3] from ⟨(pv2.mono g.g).mono x3, pv3, trivial⟩) hl3, hp, fun z G4 H4 g4 res => ⟨b, Rep.bl' res.1, P G4 H4 ((((x1.trans x2).trans g.g).trans x3).trans g4.g) (R3.grow g4)⟩⟩
              · exact P.elim
          | ex c p s1 => rw [hm3] at P; exact exW.mono ((x1.trans x2).trans g.g) P
          | bad => rw [hm3] at P; exact P
        · rename_i ho
          refine ⟨F, G2, σ, s2, ds, _, hK, hC, R2, R2.looks (show PVs F G2 σ [v, w] [p1, p2] from ⟨pv.mono x2, pv2, trivial⟩) hl, ho, fun z G' H' g res => ⟨false, Rep.bl' res.1, ?_⟩⟩
          rw [if_neg Bool.false_ne_true]
          exact ⟨false, rfl, P G' H' ((x1.trans x2).trans g.g) (R2.grow g)⟩
        · exact P.elim
    | ex c p s1 => rw [hm2] at P; exact exW.mono x1 P
    | bad => rw [hm2] at P; exact P
  | ex c p s1 => rw [hm] at P; exact P
  | bad => rw [hm] at P; exact P
theorem t_and {a b : T} {v w : Expr} {rest : List Expr} {pos : Pos} (h1 : PT X v (denT X.K CA W (evT E a))) (h2 : PW X (.BoolOp .And (w :: rest) pos) (denT X.K CA W (evT E b))) : PW X (.BoolOp .And (v :: w :: rest) pos) (denT X.K CA W (evT E (.and a b))) := by
  refine (pw_and h1 h2).imp fun σ H Q ⟨F, G, s, hK, hC, R, P⟩ => ⟨F, G, s, hK, hC, R, ?_⟩
  have P : PostT F G σ W Q ((evT E a s).bind fun c s1 => if c = true then evT E b s1 else .ok false s1) := P
  cases hm : evT E a s with
  | ok y s1 =>
    rw [hm] at P
    intro G1 H1 x1 R1
    rw [show ∀ f, (Out.ok y s1 : Out Bool).bind f = f y s1 from fun _ => rfl] at P
    cases y with
    | true =>
      rw [if_pos rfl] at P ⊢
      exact ⟨F, G1, s1, hK, hC, R1, P.mono x1⟩
    | false =>
      rw [if_neg Bool.false_ne_true] at P ⊢
      exact P G1 H1 x1 R1
  | ex c p s1 => rw [hm] at P; exact P
  | bad => rw [hm] at P; exact P
theorem t_or {a b : T} {v w : Expr} {rest : List Expr} {pos : Pos} (h1 : PT X v (denT X.K CA W (evT E a))) (h2 : PW X (.BoolOp .Or (w :: rest) pos) (denT X.K CA W (evT E b))) : PW X (.BoolOp .Or (v :: w :: rest) pos) (denT X.K CA W (evT E (.or a b))) := by
  refine (pw_or h1 h2).imp fun σ H Q ⟨F, G, s, hK, hC, R, P⟩ => ⟨F, G, s, hK, hC, R, ?_⟩
  have P : PostT F G σ W Q ((evT E a s).bind fun c s1 => if c = true then .ok true s1 else evT E b s1) := P
  cases hm : evT E a s with
  | ok y s1 =>
    rw [hm] at P
    intro G1 H1 x1 R1
    rw [show ∀ f, (Out.ok y s1 : Out Bool).bind f = f y s1 from fun _ => rfl] at P
    cases y with
    | true =>
      rw [if_pos rfl] at P ⊢
      exact P G1 H1 x1 R1
    | false =>
      rw [if_neg Bool.false_ne_true] at P ⊢
      exact ⟨F, G1, s1, hK, hC, R1, P.mono x1⟩
  | ex c p s1 => rw [hm] at P; exact P
  | bad => rw [hm] at P; exact P
theorem t_not {a : T} {v : Expr} {pos : Pos} (h1 : PT X v (denT X.K CA W (evT E a))) : PT X (.UnaryOp .Not v pos) (denT X.K CA W (evT E (.not a))) := by
  refine (pt_not h1).imp fun σ H Q ⟨F, G, s, hK, hC, R, P⟩ => ⟨F, G, s, hK, hC, R, ?_⟩
  have P : PostT F G σ W Q ((evT E a s).bind fun c s1 => .ok (!c) s1) := P
  cases hm : evT E a s with
  | ok y s1 => rw [hm] at P; exact fun G1 H1 x1 R1 => P G1 H1 x1 R1
  | ex c p s1 => rw [hm] at P; exact P
  | bad => rw [hm] at P; exact P
end
end Den
set_option Elab.async false
set_option linter.all false
set_option maxRecDepth 100000
set_option autoImplicit false
set_option maxHeartbeats 4000000
namespace Den
open PySem PySem.Spec PyProof.Rows L2
section
variable {X : Cx} {Tb : Tab} {N : List Str} {sc : Scope} {fnb : Str → Bool} {n : Nat} {E : Env} {CA : Nat → Option Addr} {W : WX} {tg : Expr}
/-! ### what is walked -/
theorem i1 {F : Fr} {G : Hp} {σ : L2.St} {it : It} {a : Den.X} {R : L2.It → Hp → Prop} {s : S} (he : ∀ s, evIt E it s = (evP E a s).bind fun p s1 => .ok [p] s1) (P : PostI F G σ W it R (evIt E it s)) :
    PostP F G σ W (fun v H1 => ∃ G1 s1 p ds items, Ex G G1 ∧ RS F G1 H1 σ s1 ∧ PVs F G1 σ [v] [p] ∧ s1.looks [p] = some ds ∧ itSem it ds = some items ∧ ∀ J, (∀ qs, WalkOk F.K [v] qs ds items J) → R J H1) (evP E a s) := by
  rw [he] at P
  cases hm : evP E a s with
  | ok p s1 =>
    rw [hm] at P
    intro v G1 H1 x1 R1 pv
    obtain ⟨ds, items, h1, h2, h3⟩ := P [v] G1 H1 x1 R1 ⟨pv, trivial⟩
    exact ⟨G1, s1, p, ds, items, x1, R1, ⟨pv, trivial⟩, h1, h2, h3⟩
  | ex c p s1 => rw [hm] at P; exact P
  | bad => rw [hm] at P; exact P
theorem i2 {F : Fr} {G : Hp} {σ : L2.St} {it : It} {a b : Den.X} {R : L2.It → Hp → Prop} {s : S} (he : ∀ s, evIt E it s = (evP E a s).bind fun p s1 => (evP E b s1).bind fun q s2 => .ok [p, q] s2) (P : PostI F G σ W it R (evIt E it s)) :
    PostPs F G σ W (fun vs H1 => ∃ v w G1 s1 p q ds items, vs = [v, w] ∧ Ex G G1 ∧ RS F G1 H1 σ s1 ∧ PVs F G1 σ [v, w] [p, q] ∧ s1.looks [p, q] = some ds ∧ itSem it ds = some items ∧ ∀ J, (∀ qs, WalkOk F.K [v, w] qs ds items J) → R J H1) (evPs E (.cons a (.cons b .nil)) s) := by
  rw [he] at P
  show PostPs F G σ W _ ((evP E a s).bind fun p s1 => ((evP E b s1).bind fun q s2 => (Out.ok [] s2 : Out (List PV)).bind fun ps s3 => .ok (q :: ps) s3).bind fun ps s2 => .ok (p :: ps) s2)
  cases hm : evP E a s with
  | ok p s1 =>
    rw [hm] at P
    show PostPs F G σ W _ (((evP E b s1).bind fun q s2 => (Out.ok [] s2 : Out (List PV)).bind fun ps s3 => .ok (q :: ps) s3).bind fun ps s2 => .ok (p :: ps) s2)
    have P : PostI F G σ W it R ((evP E b s1).bind fun q s2 => .ok [p, q] s2) := P
    cases hm2 : evP E b s1 with
    | ok q s2 =>
      rw [hm2] at P
      intro vs G1 H1 x1 R1 pv
      obtain ⟨ds, items, h1, h2, h3⟩ := P vs G1 H1 x1 R1 pv
      match vs, pv with
      | [v, w], pv => exact ⟨v, w, G1, s2, p, q, ds, items, rfl, x1, R1, pv, h1, h2, h3⟩
      | [], pv => exact pv.elim
      | [_], pv => exact pv.2.elim
      | _ :: _ :: _ :: _, pv => exact pv.2.2.elim
    | ex c p s1 => rw [hm2] at P; exact P
    | bad => rw [hm2] at P; exact P
  | ex c p s1 => rw [hm] at P; exact P
  | bad => rw [hm] at P; exact P
theorem it_seq {a : Den.X} {e : Expr} (h : PE X e (denP X.K CA W (evP E a))) : PI X tg e (denI X.K CA W (.seq a) (evIt E (.seq a))) := by
  refine (pi_seq h).imp fun σ H R ⟨F, G, s, hK, hC, RR, P⟩ => ⟨F, G, s, hK, hC, RR, ?_⟩
  have P := i1 (fun _ => rfl) P
  cases hm : evP E a s with
  | ok p s1 =>
    rw [hm] at P
    intro v G1 H1 x1 R1 pv
    obtain ⟨G2, s2, p', ds, items, x2, R2, pv2, hl, hi, hj⟩ := P v G1 H1 x1 R1 pv
    obtain ⟨d, rfl, p1⟩ := (R2.looks pv2 hl).inv1
    cases d <;> first | (cases hi; done) | skip
    · cases hi
      rename_i z
      have := p1.str
      subst this
      exact .inr (.inr ⟨z, rfl, hj _ fun _ => walk_str⟩)
    · cases hi
      obtain ⟨a, vs, rfl, h1, r1⟩ := p1.lst R2.gh
      rw [hK] at hj
      exact .inl ⟨a, rfl, ⟨vs, SqL.of h1⟩, hj _ fun _ => walk_list⟩
    · cases hi
      obtain ⟨a, vs, rfl, h1, r1⟩ := p1.tup R2.gh
      rw [hK] at hj h1
      exact .inr (.inl ⟨a, rfl, ⟨vs, h1⟩, hj _ fun _ => walk_tup⟩)
    · cases hi
      obtain ⟨a, vs, rfl, h1, r1⟩ := p1.frl R2.gh
      rw [hK] at hj h1
      exact .inl ⟨a, rfl, ⟨vs, h1⟩, hj _ fun _ => walk_frl⟩
  | ex c p s1 => rw [hm] at P; exact P
  | bad => rw [hm] at P; exact P
theorem it_rng (C : Ctx X Tb N sc fnb n E CA W) {a : Den.X} {e : Expr} {p pos : Pos} (hg : glT Tb sc "range" = true) (pl : plain e = true) (h : PE X e (denP X.K CA W (evP E a))) : PI X tg (.Call (.Name "range" p) [e] [] pos) (denI X.K CA W (.rng a) (evIt E (.rng a))) := by
  obtain ⟨g, ok, m⟩ := C.glT hg
  refine (pi_range1 g m (pa_cons h pa_nil (star_of pl _ _)) (star_of pl _ _)).imp fun σ H R ⟨F, G, s, hK, hC, RR, P⟩ => ⟨F, G, s, hK, hC, RR, ?_⟩
  have P := i1 (fun _ => rfl) P
  cases hm : evP E a s with
  | ok p s1 =>
    rw [hm] at P
    intro v G1 H1 x1 R1 pv
    obtain ⟨G2, s2, p', ds, items, x2, R2, pv2, hl, hi, hj⟩ := P v G1 H1 x1 R1 pv
    obtain ⟨d, rfl, p1⟩ := (R2.looks pv2 hl).inv1
    cases d <;> first | (cases hi; done) | skip
    rename_i j
    obtain ⟨hz, hi⟩ := ite_some (show (if -(2 ^ 62) ≤ j ∧ j < 2 ^ 62 then some ((List.range j.toNat).map fun k => D.int (k : Nat)) else none) = some items from hi)
    subst hi
    have := p1.int
    subst this
    refine ⟨j, rfl, hz.1, hz.2, hj _ fun qs => ?_⟩
    have w := walk_rng (K := F.K) (vs := [V.int j]) (ps := qs) (ds := [.int j]) (lo := 0) (n := j.toNat)
    simpa using w
  | ex c p s1 => rw [hm] at P; exact P
  | bad => rw [hm] at P; exact P
theorem it_rng2 (C : Ctx X Tb N sc fnb n E CA W) {a b : Den.X} {e f : Expr} {p pos : Pos} (hg : glT Tb sc "range" = true) (pl : plain e = true) (pl2 : plain f = true) (h : PE X e (denP X.K CA W (evP E a))) (h2 : PE X f (denP X.K CA W (evP E b))) :
    PI X tg (.Call (.Name "range" p) [e, f] [] pos) (denI X.K CA W (.rng2 a b) (evIt E (.rng2 a b))) := by
  obtain ⟨g, ok, m⟩ := C.glT hg
  refine (pi_range2 g m (s_consP pl h (s_consP pl2 h2 s_nilP)) (by rw [star_of pl, star_of pl2]; rfl) (star_of pl2 _ _)).imp fun σ H R ⟨F, G, s, hK, hC, RR, P⟩ => ⟨F, G, s, hK, hC, RR, ?_⟩
  have P := i2 (fun _ => rfl) P
  cases hm : evPs E (.cons a (.cons b .nil)) s with
  | ok p s1 =>
    rw [hm] at P
    intro vs G1 H1 x1 R1 pv
    obtain ⟨v, w, G2, s2, p', q', ds, items, rfl, x2, R2, pv2, hl, hi, hj⟩ := P vs G1 H1 x1 R1 pv
    obtain ⟨d, d', rfl, p1, p2⟩ := (R2.looks pv2 hl).inv2
    cases d <;> first | (cases hi; done) | skip
    cases d' <;> first | (cases hi; done) | skip
    rename_i i j
    obtain ⟨hz, hi⟩ := ite_some (show (if -(2 ^ 62) ≤ i ∧ i < 2 ^ 62 ∧ -(2 ^ 62) ≤ j ∧ j < 2 ^ 62 then some ((List.range (j - i).toNat).map fun k => D.int (i + (k : Nat))) else none) = some items from hi)
    subst hi
    have h1 := p1.int
    have h2 := p2.int
    subst h1 h2
    exact ⟨i, j, rfl, hz, hj _ fun _ => walk_rng⟩
  | ex c p s1 => rw [hm] at P; exact P
  | bad => rw [hm] at P; exact P
theorem it_enum (C : Ctx X Tb N sc fnb n E CA W) {a : Den.X} {e : Expr} {p pos : Pos} (ht : isTup tg = true) (hg : glT Tb sc "enumerate" = true) (pl : plain e = true) (h : PE X e (denP X.K CA W (evP E a))) : PI X tg (.Call (.Name "enumerate" p) [e] [] pos) (denI X.K CA W (.enum a) (evIt E (.enum a))) := by
  obtain ⟨g, ok, m⟩ := C.glT hg
  cases tg <;> first | (exact Bool.noConfusion ht) | skip
  refine (ET.pi_enumA g m (pa_cons h pa_nil (star_of pl _ _)) (star_of pl _ _)).imp fun σ H R ⟨F, G, s, hK, hC, RR, P⟩ => ⟨F, G, s, hK, hC, RR, ?_⟩
  have P := i1 (fun _ => rfl) P
  cases hm : evP E a s with
  | ok p s1 =>
    rw [hm] at P
    intro v G1 H1 x1 R1 pv
    obtain ⟨G2, s2, p', ds, items, x2, R2, pv2, hl, hi, hj⟩ := P v G1 H1 x1 R1 pv
    obtain ⟨d, rfl, p1⟩ := (R2.looks pv2 hl).inv1
    cases d <;> first | (cases hi; done) | skip
    · cases hi
      obtain ⟨a, vs, rfl, h1, r1⟩ := p1.lst R2.gh
      rw [hK] at hj
      exact ⟨a, vs, rfl, .inl ⟨SqL.of h1, hj _ fun _ => walk_enum⟩⟩
    · cases hi
      obtain ⟨a, vs, rfl, h1, r1⟩ := p1.tup R2.gh
      rw [hK] at hj h1
      exact ⟨a, vs, rfl, .inr ⟨h1, hj _ fun _ => walk_enumT⟩⟩
  | ex c p s1 => rw [hm] at P; exact P
  | bad => rw [hm] at P; exact P
theorem it_enums (C : Ctx X Tb N sc fnb n E CA W) {a : Den.X} {e : Expr} {p pos cp kp : Pos} {j : Nat} {z : Int} (hz : 0 ≤ z ∧ z < 1000) (ht : isTup tg = true) (hg : glT Tb sc "enumerate" = true) (pl : plain e = true) (h : PE X e (denP X.K CA W (evP E a))) : PI X tg (.Call (.Name "enumerate" p) [e] [⟨some "start", .Constant (.int z) j cp, kp⟩] pos) (denI X.K CA W (.enums a z) (evIt E (.enums a z))) := by
  obtain ⟨g, ok, m⟩ := C.glT hg
  cases tg <;> first | (exact Bool.noConfusion ht) | skip
  refine (ET.pi_enumS hz g m (pa_cons h pa_nil (star_of pl _ _)) (fun es => star_of pl es _)).imp fun σ H R ⟨F, G, s, hK, hC, RR, P⟩ => ⟨F, G, s, hK, hC, RR, ?_⟩
  have P := i1 (fun _ => rfl) P
  cases hm : evP E a s with
  | ok p s1 =>
    rw [hm] at P
    intro v G1 H1 x1 R1 pv
    obtain ⟨G2, s2, p', ds, items, x2, R2, pv2, hl, hi, hj⟩ := P v G1 H1 x1 R1 pv
    obtain ⟨d, rfl, p1⟩ := (R2.looks pv2 hl).inv1
    cases d <;> first | (cases hi; done) | skip
    · cases hi
      obtain ⟨a, vs, rfl, h1, r1⟩ := p1.lst R2.gh
      rw [hK] at hj
      exact ⟨a, vs, rfl, .inl ⟨SqL.of h1, hj _ fun _ => walk_enkL⟩⟩
    · cases hi
      obtain ⟨a, vs, rfl, h1, r1⟩ := p1.tup R2.gh
      rw [hK] at hj h1
      exact ⟨a, vs, rfl, .inr ⟨h1, hj _ fun _ => walk_enkT⟩⟩
  | ex c p s1 => rw [hm] at P; exact P
  | bad => rw [hm] at P; exact P
theorem it_zip (C : Ctx X Tb N sc fnb n E CA W) {a b : Den.X} {e f : Expr} {p pos : Pos} (ht : isTup tg = true) (hg : glT Tb sc "zip" = true) (pl : plain e = true) (pl2 : plain f = true) (h : PE X e (denP X.K CA W (evP E a))) (h2 : PE X f (denP X.K CA W (evP E b))) :
    PI X tg (.Call (.Name "zip" p) [e, f] [] pos) (denI X.K CA W (.zip a b) (evIt E (.zip a b))) := by
  obtain ⟨g, ok, m⟩ := C.glT hg
  cases tg <;> first | (exact Bool.noConfusion ht) | skip
  refine (RZ.pi_zipA g m (s_consP pl h (s_consP pl2 h2 s_nilP)) (star_of pl _ _) (by rw [star_of pl2]; rfl)).imp fun σ H R ⟨F, G, s, hK, hC, RR, P⟩ => ⟨F, G, s, hK, hC, RR, ?_⟩
  have P := i2 (fun _ => rfl) P
  cases hm : evPs E (.cons a (.cons b .nil)) s with
  | ok p s1 =>
    rw [hm] at P
    intro vs G1 H1 x1 R1 pv
    obtain ⟨v, w, G2, s2, p', q', ds, items, rfl, x2, R2, pv2, hl, hi, hj⟩ := P vs G1 H1 x1 R1 pv
    obtain ⟨d, d', rfl, p1, p2⟩ := (R2.looks pv2 hl).inv2
    cases d <;> first | (cases hi; done) | skip
    · cases d' <;> first | (cases hi; done) | skip
      cases hi
      obtain ⟨a, vs, rfl, h1, r1⟩ := p1.lst R2.gh
      obtain ⟨b, ws, rfl, h2, r2⟩ := p2.lst R2.gh
      rw [hK] at hj
      exact ⟨a, b, vs, ws, rfl, .inl ⟨SqL.of h1, SqL.of h2, hj _ fun _ => walk_zip⟩⟩
    · cases d' <;> first | (cases hi; done) | skip
      cases hi
      obtain ⟨a, vs, rfl, h1, r1⟩ := p1.tup R2.gh
      obtain ⟨b, ws, rfl, h2, r2⟩ := p2.tup R2.gh
      rw [hK] at hj h1 h2
      exact ⟨a, b, vs, ws, rfl, .inr ⟨h1, h2, hj _ fun _ => walk_zipT⟩⟩
  | ex c p s1 => rw [hm] at P; exact P
  | bad => rw [hm] at P; exact P
theorem it_rev (C : Ctx X Tb N sc fnb n E CA W) {a : Den.X} {e : Expr} {p pos : Pos} (hg : glT Tb sc "reversed" = true) (pl : plain e = true) (h : PE X e (denP X.K CA W (evP E a))) : PI X tg (.Call (.Name "reversed" p) [e] [] pos) (denI X.K CA W (.rev a) (evIt E (.rev a))) := by
  obtain ⟨g, ok, m⟩ := C.glT hg
  refine (RT.pi_revA g m h (star_of pl _ _)).imp fun σ H R ⟨F, G, s, hK, hC, RR, P⟩ => ⟨F, G, s, hK, hC, RR, ?_⟩
  have P := i1 (fun _ => rfl) P
  cases hm : evP E a s with
  | ok p s1 =>
    rw [hm] at P
    intro v G1 H1 x1 R1 pv
    obtain ⟨G2, s2, p', ds, items, x2, R2, pv2, hl, hi, hj⟩ := P v G1 H1 x1 R1 pv
    obtain ⟨d, rfl, p1⟩ := (R2.looks pv2 hl).inv1
    cases d <;> first | (cases hi; done) | skip
    · cases hi
      obtain ⟨a, vs, rfl, h1, r1⟩ := p1.lst R2.gh
      rw [hK] at hj
      refine ⟨a, vs, rfl, .inl ⟨SqL.of h1, ?_⟩⟩
      rw [r1.length]
      exact hj _ fun _ => walk_rev
    · cases hi
      obtain ⟨a, vs, rfl, h1, r1⟩ := p1.tup R2.gh
      rw [hK] at hj h1
      refine ⟨a, vs, rfl, .inr ⟨h1, ?_⟩⟩
      rw [r1.length]
      exact hj _ fun _ => walk_revT
  | ex c p s1 => rw [hm] at P; exact P
  | bad => rw [hm] at P; exact P
/-! ### comprehensions -/
theorem _root_.L2.PTs.imp {ifs : List Expr} {t t' : TT} (h : PTs X ifs t) (i : ∀ σ H Q, t' σ H Q → t σ H Q) : PTs X ifs t' := ⟨fun pins s σ H Q I q => h.run pins s σ H Q I (i σ H Q q)⟩
def W0 : WX := fun _ _ _ _ => False
theorem Ctx.blk (C : Ctx X Tb N sc fnb n E CA W) (s : Shared) (H : Hp) (scope : Scope) (c : Addr) (cl : List (Str × Addr)) (fp : List Addr) :
    Ctx (X.blk s H scope (compEnvC scope cl c X.env) fp) Tb N (relS scope sc) (fun x => scope.names.lookup x == some .cell) n E CA W0 where
  hN := C.hN
  nd := C.nd
  hsc := by show relS scope X.env.scope = relS scope sc; rw [C.hsc]
  calm := C.calm
  tk := fun u s' ⟨_, _, _, _, _, _, _, _, _, _, _, _, _, _, _, _, w⟩ => w.elim
  room := C.room
  hfn := fun _ => rfl
  tab := C.tab
theorem tru_ts {X : Cx} {t : T} (h : t.isTru = true) : PTs X [] (denT X.K CA W (evT E t)) := by
  cases t <;> first | (exact Bool.noConfusion h) | skip
  exact pts_nil.imp fun σ H Q ⟨F, G, s, hK, hC, R, P⟩ => P G H (Evl.Ex.refl _) R
theorem wipe_get_in {σ : L2.St} {i : Nat} : ∀ {vs : List Nat}, i ∈ vs → i < σ.length → (L2.wipe σ vs)[i]? = some none
  | [], h, _ => by cases h
  | v :: vs, h, hl => by
    unfold L2.wipe
    by_cases e : v = i
    · subst e; exact List.getElem?_set_self (by rw [L2.wipe_length]; exact hl)
    · rw [List.getElem?_set_ne e]
      exact wipe_get_in ((List.mem_cons.mp h).resolve_left (fun z => e z.symm)) hl
theorem wipe_twice {σ : L2.St} {vs : List Nat} : L2.wipe (L2.wipe σ vs) vs = L2.wipe σ vs := by
  apply List.ext_getElem?
  intro i
  by_cases h : i ∈ vs
  · by_cases hl : i < σ.length
    · rw [wipe_get_in h (by rw [L2.wipe_length]; exact hl), wipe_get_in h hl]
    · rw [List.getElem?_eq_none (by rw [L2.wipe_length, L2.wipe_length]; omega), List.getElem?_eq_none (by rw [L2.wipe_length]; omega)]
  · rw [wipeS_get (x := none) h]
theorem PVs.pin {F : Fr} {G : Hp} {σ : L2.St} {a : Addr} {o : HO} : ∀ {vs : List V} {ps : List PV}, PVs F G σ vs ps → PVs (F.pin a o) G σ vs ps
  | [], [], _ => trivial
  | v :: vs, p :: ps, ⟨h, t⟩ => ⟨by cases p <;> exact h, PVs.pin t⟩
  | [], _ :: _, h => h.elim
  | _ :: _, [], h => h.elim
/-- an operand is still there in the block -/
theorem PVs.blk {F : Fr} {G : Hp} {σ : L2.St} {own : List Nat} {s : S} : ∀ {vs : List V} {ps : List PV} {ds : List D}, (∀ i ∈ own, s.slot i = none) → PVs F G σ vs ps → s.looks ps = some ds → PVs F G (L2.wipe σ own) vs ps
  | [], [], _, _, _, _ => trivial
  | v :: vs, p :: ps, ds, ho, ⟨h, t⟩, e => by
    unfold S.looks at e
    cases hd : s.look p with
    | none => rw [hd] at e; cases e
    | some d =>
      rw [hd] at e
      cases ht : s.looks ps with
      | none => rw [ht] at e; cases e
      | some ds' =>
        refine ⟨?_, PVs.blk ho t ht⟩
        cases p with
        | val d => exact h
        | br k => exact h
        | «at» i =>
          have hi : i ∉ own := fun m => by
            have hd : (s.slot i).bind s.data = some d := hd
            rw [ho i m] at hd; cases hd
          show (L2.wipe σ own)[i]? = some (some v)
          rw [wipeS_get (x := none) hi]
          exact h
  | [], _ :: _, _, _, h, _ => h.elim
  | _ :: _, [], _, _, h, _ => h.elim
theorem slot_wiped {s : S} {own : List Nat} : ∀ i ∈ own, (s.wipe own).slot i = none := fun i hi => by
  cases h : (s.wipe own).slot i with
  | none => rfl
  | some x => exact absurd hi (foldl_none (slot_env h)).2
theorem s_comp (C : Ctx X Tb N sc fnb n E CA W) {own : List (Str × Nat)} {tgx : Tg} {it : It} {t : T} {x : Den.X} (hin : tgIn (own.map (·.2)) tgx = true) {σ : L2.St} {H : Hp} {Q : VK} (h : denE X.K CA W (evX E (.comp own tgx it t x)) σ H Q) :
    tLc (denI X.K CA W it (evIt E it)) (gDen X.K CA tgx) (denT X.K CA W0 (evT E t)) (denE X.K CA W0 (evX E x)) (own.map (·.2)) σ H Q := by
  obtain ⟨F, G, s, hK, hC, R, P0⟩ := h
  generalize hown : own.map (·.2) = ow at *
  have P : PostE F G σ W Q ((evIt E it s).bind fun ps s1 => match (s1.looks ps) with
    | none => .bad
    | some ds => match itSem it ds with
      | none => .bad
      | some items => (compRun (fun s d => match S.asg tgx d s with
          | none => .bad
          | some s' => (evT E t s').bind fun c s2 => if c = true then (evX E x s2).bind fun v s3 => match v.d with
              | some d => .ok (some d) (s3.wipe (own.map (·.2)))
              | none => .bad
            else .ok none (s2.wipe (own.map (·.2)))) (fun s => decide (s.looks ps = some ds)) items [] (s1.wipe (own.map (·.2)))).bind fun acc s2 => .ok (.own (.lst acc)) (s1.restore s2 (own.map (·.2)))) := P0
  clear P0
  rw [hown] at P
  refine ⟨F, G, s, hK, hC, R, ?_⟩
  cases hm : evIt E it s with
  | ex c p s1 => rw [hm] at P; exact P
  | bad => rw [hm] at P; exact P
  | ok ps s1 =>
    rw [hm] at P
    rw [show ∀ f, (Out.ok ps s1 : Out (List PV)).bind f = f ps s1 from fun _ => rfl] at P
    intro vs G1 H1 x1 R1 pvs
    cases hl : s1.looks ps with
    | none => simp only [hl] at P; exact P.elim
    | some ds =>
      simp only [hl] at P
      cases hit : itSem it ds with
      | none => simp only [hit] at P; exact P.elim
      | some items =>
        simp only [hit] at P
        refine ⟨ds, items, rfl, hit, fun J hJ Da hD => ?_⟩
        have hn : F.H0 Da = none := R1.h0 hD
        have hbD : F.B Da = none := by
          cases q : F.B Da with
          | none => rfl
          | some u => have := R1.bh _ _ q; rw [hn] at this; cases this
        have hrD : Da ∉ F.rs := R1.apart hn
        have hg1 : G1 Da = none := gnone R1.gh hD
        have ns0 : NoSlot σ s1 Da := fun i y e1 e2 => no_slot R1 hD i y e1 e2
        have nsw : NoSlot (L2.wipe σ ow) (s1.wipe ow) Da := fun i y e1 e2 q => by
          obtain ⟨a1, a2⟩ := foldl_none e1
          rw [wipeS_get (x := none) a2] at q
          exact ns0 i y a1 e2 q
        refine ⟨fun i m H' => m = items.length - i ∧ i ≤ items.length ∧ ∃ G' s' acc vacc, Ex G1 G' ∧ RS F G' H' (L2.wipe σ ow) s' ∧ (∀ i ∈ ow, s'.slot i = none) ∧ G' Da = none ∧ H' Da = some (.lst vacc) ∧ NoSlot (L2.wipe σ ow) s' Da ∧ Reps F.K F.CA G' vacc acc ∧
          PostE F G1 σ W Q ((compRun (fun s d => match S.asg tgx d s with
          | none => .bad
          | some s' => (evT E t s').bind fun c s2 => if c = true then (evX E x s2).bind fun v s3 => match v.d with
              | some d => .ok (some d) (s3.wipe ow)
              | none => .bad
            else .ok none (s2.wipe ow)) (fun s => decide (s.looks ps = some ds)) (items.drop i) acc s').bind fun acc s2 => .ok (.own (.lst acc)) (s1.restore s2 ow)), ⟨items.length, rfl, Nat.zero_le _, G1, s1.wipe ow, [], [], Evl.Ex.refl _, ?_, slot_wiped, hg1, upd_same, nsw, .nil, P.mono x1⟩, ?_⟩
        · exact (R1.grow (Grow.newH R1.gh hD)).blk ow
        · rintro i m H' ⟨rfl, hi', G', s', acc, vacc, xg, R', hso, hgD, hHD, nsD, racc, P'⟩
          have pv' : ∀ {ds' : List D}, s'.looks ps = some ds' → PVs F G' (L2.wipe σ ow) vs ps := fun {ds'} hl' => (PVs.blk hso pvs hl').mono xg
          by_cases hlt : i < items.length
          · have hdrop : items.drop i = items[i] :: items.drop (i + 1) := List.drop_eq_getElem_cons hlt
            rw [hdrop] at P'
            unfold compRun at P'
            by_cases hok : s'.looks ps = some ds
            · rw [if_pos (decide_eq_true hok)] at P'
              have wk := (hJ ps F rfl (L2.wipe σ ow) G' H' s' i R' (pv' hok) hok).2 items[i] (List.getElem?_eq_getElem hlt)
              refine .inr ⟨wk.1, fun H2 => i + 1 ≤ items.length ∧ ∃ G' s' acc vacc, Ex G1 G' ∧ RS F G' H2 (L2.wipe σ ow) s' ∧ (∀ i ∈ ow, s'.slot i = none) ∧ G' Da = none ∧ H2 Da = some (.lst vacc) ∧ NoSlot (L2.wipe σ ow) s' Da ∧ Reps F.K F.CA G' vacc acc ∧
                PostE F G1 σ W Q ((compRun (fun s d => match S.asg tgx d s with
                  | none => .bad
                  | some s' => (evT E t s').bind fun c s2 => if c = true then (evX E x s2).bind fun v s3 => match v.d with
                      | some d => .ok (some d) (s3.wipe ow)
                      | none => .bad
                    else .ok none (s2.wipe ow)) (fun s => decide (s.looks ps = some ds)) (items.drop (i + 1)) acc s').bind fun acc s2 => .ok (.own (.lst acc)) (s1.restore s2 ow)), fun H2 h2 => ⟨items.length - (i + 1), by omega, rfl, h2.1, h2.2⟩, fun y H2 hy => ?_⟩
              -- the new item, the list kept apart
              have Rp := R'.pin hn hgD hHD nsD
              obtain ⟨G2, x2, R2, r2⟩ := ((hJ ps (F.pin Da (.lst vacc)) rfl (L2.wipe σ ow) G' H' s' i Rp (pv' hok).pin hok).2 items[i] (List.getElem?_eq_getElem hlt)).2 y H2 hy
              cases ha : S.asg tgx items[i] s' with
              | none => simp only [ha] at P'; exact P'.elim
              | some s2 =>
                simp only [ha] at P'
                refine ⟨F.pin Da (.lst vacc), G2, s', items[i], s2, hK, hC, R2, r2, ha, fun σ3 G3 H3 x3 R3 hw => ⟨(hw ow hin).trans wipe_twice, F.pin Da (.lst vacc), G3, s2, hK, hC, R3, ?_⟩⟩
                cases ht2 : evT E t s2 with
                | ex c p s1 => simp only [ht2] at P'; exact P'.elim
                | bad => simp only [ht2] at P'; exact P'.elim
                | ok b s3 =>
                  simp only [ht2] at P'
                  rw [show ∀ {α : Type} (f : Bool → S → Out α), (Out.ok b s3 : Out Bool).bind f = f b s3 from fun _ => rfl] at P'
                  intro G4 H4 x4 R4
                  cases b with
                  | false =>
                    rw [if_neg Bool.false_ne_true] at P' ⊢
                    obtain ⟨R5, g5, h5, n5⟩ := R4.unpin hn hbD hrD
                    have R6 := R5.blk ow
                    rw [hw ow hin] at R6
                    refine ⟨hlt, G4, s3.wipe ow, acc, vacc, ((xg.trans x2).trans x3).trans x4, ?_, slot_wiped, g5, h5, fun i y e1 e2 q => ?_, racc.mono ((x2.trans x3).trans x4), P'⟩
                    · have e : L2.wipe (L2.wipe σ ow) ow = L2.wipe σ ow := wipe_twice
                      rw [e] at R6
                      exact R6
                    · obtain ⟨a1, a2⟩ := foldl_none e1
                      refine n5 i y a1 e2 ?_
                      rw [← q, ← wipeS_get (x := none) (σ := σ3) a2, hw ow hin, wipe_twice]
                  | true =>
                    rw [if_pos rfl] at P' ⊢
                    refine ⟨F.pin Da (.lst vacc), G4, s3, hK, hC, R4, ?_⟩
                    cases hx2 : evX E x s3 with
                    | ex c p s1 => simp only [hx2] at P'; exact P'.elim
                    | bad => simp only [hx2] at P'; exact P'.elim
                    | ok v s4 =>
                      simp only [hx2] at P'
                      rw [show ∀ {α : Type} (f : SV → S → Out α), (Out.ok v s4 : Out SV).bind f = f v s4 from fun _ => rfl] at P'
                      intro w G5 H5 x5 R5 res
                      cases hvd : v.d with
                      | none => simp only [hvd] at P'; exact P'.elim
                      | some d =>
                        simp only [hvd] at P'
                        unfold compNext at P'
                        by_cases hz : acc.length < lim
                        · simp only [if_pos hz] at P'
                          obtain ⟨G6, x6, R6, r6⟩ := res.freeze R5 hvd
                          obtain ⟨R7, g7, h7, n7⟩ := R6.unpin hn hbD hrD
                          have n8 : NoSlot (L2.wipe σ ow) (s4.wipe ow) Da := fun i y e1 e2 q => by
                            obtain ⟨a1, a2⟩ := foldl_none e1
                            refine n7 i y a1 e2 ?_
                            rw [← q, ← wipeS_get (x := none) (σ := σ3) a2, hw ow hin, wipe_twice]
                          have R8 := R7.blk ow
                          rw [hw ow hin, wipe_twice] at R8
                          have racc' := racc.mono ((((x2.trans x3).trans x4).trans x5).trans x6)
                          exact ⟨vacc, h7, by rw [racc.length]; exact szl hz, hlt, G6, s4.wipe ow, acc ++ [d], vacc ++ [w], ((((xg.trans x2).trans x3).trans x4).trans x5).trans x6, R8.other hn g7 n8, slot_wiped, g7, upd_same, n8, racc'.append (.one r6), P'⟩
                        · simp only [if_neg hz] at P'
                          exact P'.elim
            · rw [if_neg (by rw [decide_eq_false hok]; exact Bool.false_ne_true)] at P'
              exact P'.elim
          · have hge : items.length ≤ i := Nat.le_of_not_lt hlt
            have hdrop : items.drop i = [] := List.drop_eq_nil_of_le hge
            rw [hdrop] at P'
            unfold compRun at P'
            by_cases hok : s'.looks ps = some ds
            · rw [if_pos (decide_eq_true hok)] at P'
              have P' : PostE F G1 σ W Q (.ok (.own (.lst acc)) (s1.restore s' ow)) := P'
              have Rr := RS.restore R1 xg R'
              refine .inl ⟨(hJ ps F rfl (L2.wipe σ ow) G' H' s' i R' (pv' hok) hok).1 hge, P' (.ref Da) G' H' xg Rr ⟨⟨Da, rfl, .lst hHD racc, hgD, hn⟩, fun _ => (by intro z; cases z), fun _ j y e1 e2 q => ?_⟩⟩
              rcases foldl_res e1 with ⟨a1, a2⟩ | ⟨a1, a2⟩
              · split at a2
                · cases a2; cases e2
                · cases a2
              · exact nsD j y a2 e2 (by rw [wipeS_get (x := none) a1]; exact q)
            · rw [if_neg (by rw [decide_eq_false hok]; exact Bool.false_ne_true)] at P'
              exact P'.elim
end
end Den
set_option Elab.async false
set_option linter.all false
set_option maxRecDepth 100000
set_option autoImplicit false
set_option maxHeartbeats 4000000
namespace Den
open PySem PySem.Spec PyProof.Rows L2
section
variable {X : Cx} {Tb : Tab} {N : List Str} {sc : Scope} {fnb : Str → Bool} {n : Nat} {E : Env} {CA : Nat → Option Addr} {W : WX}
/-! ### comprehensions of two walks -/
theorem wipe_sub {σ : L2.St} {v w : List Nat} (h : ∀ i ∈ v, i ∈ w) : L2.wipe (L2.wipe σ v) w = L2.wipe σ w := by
  apply List.ext_getElem?
  intro i
  by_cases hw : i ∈ w
  · by_cases hl : i < σ.length
    · rw [wipe_get_in hw (by rw [L2.wipe_length]; exact hl), wipe_get_in hw hl]
    · rw [List.getElem?_eq_none (by rw [L2.wipe_length, L2.wipe_length]; omega), List.getElem?_eq_none (by rw [L2.wipe_length]; omega)]
  · rw [wipeS_get (x := none) hw, wipeS_get (x := none) hw, wipeS_get (x := none) fun z => hw (h i z)]
theorem PVs.unpin {F : Fr} {G : Hp} {σ : L2.St} {a : Addr} {o : HO} : ∀ {vs : List V} {ps : List PV}, PVs (F.pin a o) G σ vs ps → PVs F G σ vs ps
  | [], [], _ => trivial
  | v :: vs, p :: ps, ⟨h, t⟩ => ⟨by cases p <;> exact h, PVs.unpin t⟩
  | [], _ :: _, h => h.elim
  | _ :: _, [], h => h.elim
/-- the inner walk -/
theorem lc_inner {F : Fr} {K : PySem.W.Frag} (hK : F.K = K) (hC : F.CA = CA) {tg1 : Tg} {vs1 : List Nat} (hin1 : tgIn vs1 tg1 = true) {mT : S → Out Bool} {mX : S → Out SV} {σ2 : L2.St} {Da : Addr} (hn : F.H0 Da = none) (hbD : F.B Da = none) (hrD : Da ∉ F.rs)
    {ps1 : List PV} {ds1 items1 : List D} {vs : List V} {J1 : L2.It} (hJ : ∀ qs, WalkOk F.K vs qs ds1 items1 J1) {G0 H : Hp} {s0 : S} {acc0 : List D} {vacc0 : List V} (R0 : RS F G0 H (L2.wipe σ2 vs1) s0) (hso0 : ∀ i ∈ vs1, s0.slot i = none) (g0 : G0 Da = none) (h0 : H Da = some (.lst vacc0))
    (ns0 : NoSlot (L2.wipe σ2 vs1) s0 Da) (racc0 : Reps F.K F.CA G0 vacc0 acc0) (pvs0 : PVs F G0 (L2.wipe σ2 vs1) vs ps1 ∨ s0.looks ps1 ≠ some ds1) {PP : Out (List D) → Prop} (hbad : ¬ PP .bad)
    (P0 : PP (compRun (fun s d => match S.asg tg1 d s with
                    | none => .bad
                    | some s' => (mT s').bind fun c s2 => if c = true then (mX s2).bind fun v s3 => match v.d with
                        | some d => .ok (some d) (s3.wipe vs1)
                        | none => .bad
                      else .ok none (s2.wipe vs1)) (fun s => decide (s.looks ps1 = some ds1)) items1 acc0 s0)) {Nx : Hp → Prop}
    (fin : ∀ G' H' s' acc vacc, Ex G0 G' → RS F G' H' (L2.wipe σ2 vs1) s' → G' Da = none → H' Da = some (.lst vacc) → NoSlot (L2.wipe σ2 vs1) s' Da → Reps F.K F.CA G' vacc acc → PP (.ok acc s') → Nx H') :
    ∃ W1 : Nat → Nat → Hp → Prop, (∃ m, W1 0 m H) ∧ ∀ j k H, W1 j k H →
      (J1.stop j H ∧ Nx H) ∨ (J1.go j H ∧ ∃ Nx1 : Hp → Prop, (∀ H', Nx1 H' → ∃ k', k' < k ∧ W1 (j + 1) k' H') ∧ ∀ x H', J1.yld j H x H' → gDen K CA tg1 x (L2.wipe σ2 vs1) H' fun σ3 H5 => L2.wipe σ3 vs1 = L2.wipe σ2 vs1 ∧ denT K CA W0 mT σ3 H5 fun b H6 =>
        if b = true then denE K CA W0 mX σ3 H6 fun y H7 => ∃ acc, H7 Da = some (.lst acc) ∧ acc.length < sizeLine ∧ Nx1 (upd H7 Da (.lst (acc ++ [y]))) else Nx1 H6) := by
  refine ⟨fun i m H' => m = items1.length - i ∧ i ≤ items1.length ∧ ∃ G' s' acc vacc, Ex G0 G' ∧ RS F G' H' (L2.wipe σ2 vs1) s' ∧ (∀ i ∈ vs1, s'.slot i = none) ∧ G' Da = none ∧ H' Da = some (.lst vacc) ∧ NoSlot (L2.wipe σ2 vs1) s' Da ∧ Reps F.K F.CA G' vacc acc ∧ (PVs F G' (L2.wipe σ2 vs1) vs ps1 ∨ s'.looks ps1 ≠ some ds1) ∧
          PP (compRun (fun s d => match S.asg tg1 d s with
                    | none => .bad
                    | some s' => (mT s').bind fun c s2 => if c = true then (mX s2).bind fun v s3 => match v.d with
                        | some d => .ok (some d) (s3.wipe vs1)
                        | none => .bad
                      else .ok none (s2.wipe vs1)) (fun s => decide (s.looks ps1 = some ds1)) (items1.drop i) acc s'), ⟨items1.length, rfl, Nat.zero_le _, G0, s0, acc0, vacc0, Evl.Ex.refl _, R0, hso0, g0, h0, ns0, racc0, pvs0, P0⟩, ?_⟩
  rintro i m H' ⟨rfl, hi', G', s', acc, vacc, xg, R', hso, hgD, hHD, nsD, racc, pvq, P'⟩
  have pv' : s'.looks ps1 = some ds1 → PVs F G' (L2.wipe σ2 vs1) vs ps1 := fun e => pvq.resolve_right fun z => z e
  by_cases hlt : i < items1.length
  · have hdrop : items1.drop i = items1[i] :: items1.drop (i + 1) := List.drop_eq_getElem_cons hlt
    rw [hdrop] at P'
    unfold compRun at P'
    by_cases hok : s'.looks ps1 = some ds1
    · rw [if_pos (decide_eq_true hok)] at P'
      have wk := (hJ ps1 F rfl (L2.wipe σ2 vs1) G' H' s' i R' (pv' hok) hok).2 items1[i] (List.getElem?_eq_getElem hlt)
      refine .inr ⟨wk.1, fun H2 => i + 1 ≤ items1.length ∧ ∃ G' s' acc vacc, Ex G0 G' ∧ RS F G' H2 (L2.wipe σ2 vs1) s' ∧ (∀ i ∈ vs1, s'.slot i = none) ∧ G' Da = none ∧ H2 Da = some (.lst vacc) ∧ NoSlot (L2.wipe σ2 vs1) s' Da ∧ Reps F.K F.CA G' vacc acc ∧ (PVs F G' (L2.wipe σ2 vs1) vs ps1 ∨ s'.looks ps1 ≠ some ds1) ∧
          PP (compRun (fun s d => match S.asg tg1 d s with
                    | none => .bad
                    | some s' => (mT s').bind fun c s2 => if c = true then (mX s2).bind fun v s3 => match v.d with
                        | some d => .ok (some d) (s3.wipe vs1)
                        | none => .bad
                      else .ok none (s2.wipe vs1)) (fun s => decide (s.looks ps1 = some ds1)) (items1.drop (i + 1)) acc s'), fun H2 h2 => ⟨items1.length - (i + 1), by omega, rfl, h2.1, h2.2⟩, fun y H2 hy => ?_⟩
      have Rp := R'.pin hn hgD hHD nsD
      obtain ⟨G2, x2, R2, r2⟩ := ((hJ ps1 (F.pin Da (.lst vacc)) rfl (L2.wipe σ2 vs1) G' H' s' i Rp (pv' hok).pin hok).2 items1[i] (List.getElem?_eq_getElem hlt)).2 y H2 hy
      cases ha : S.asg tg1 items1[i] s' with
      | none => simp only [ha] at P'; exact (hbad P').elim
      | some s2 =>
        simp only [ha] at P'
        refine ⟨F.pin Da (.lst vacc), G2, s', items1[i], s2, hK, hC, R2, r2, ha, fun σ3 G3 H3 x3 R3 hw => ⟨(hw vs1 hin1).trans wipe_twice, F.pin Da (.lst vacc), G3, s2, hK, hC, R3, ?_⟩⟩
        cases ht2 : mT s2 with
        | ex c p s1 => simp only [ht2] at P'; exact (hbad P').elim
        | bad => simp only [ht2] at P'; exact (hbad P').elim
        | ok b s3 =>
          simp only [ht2] at P'
          rw [show ∀ {α : Type} (f : Bool → S → Out α), (Out.ok b s3 : Out Bool).bind f = f b s3 from fun _ => rfl] at P'
          intro G4 H4 x4 R4
          cases b with
          | false =>
            rw [if_neg Bool.false_ne_true] at P' ⊢
            obtain ⟨R5, g5, h5, n5⟩ := R4.unpin hn hbD hrD
            have R6 := R5.blk vs1
            rw [hw vs1 hin1, wipe_twice] at R6
            refine ⟨hlt, G4, s3.wipe vs1, acc, vacc, ((xg.trans x2).trans x3).trans x4, R6, slot_wiped, g5, h5, fun i y e1 e2 q => ?_, racc.mono ((x2.trans x3).trans x4), .inl ((pv' hok).mono ((x2.trans x3).trans x4)), P'⟩
            obtain ⟨a1, a2⟩ := foldl_none e1
            refine n5 i y a1 e2 ?_
            rw [← q, ← wipeS_get (x := none) (σ := σ3) a2, hw vs1 hin1, wipe_twice]
          | true =>
            rw [if_pos rfl] at P' ⊢
            refine ⟨F.pin Da (.lst vacc), G4, s3, hK, hC, R4, ?_⟩
            cases hx2 : mX s3 with
            | ex c p s1 => simp only [hx2] at P'; exact (hbad P').elim
            | bad => simp only [hx2] at P'; exact (hbad P').elim
            | ok v s4 =>
              simp only [hx2] at P'
              rw [show ∀ {α : Type} (f : SV → S → Out α), (Out.ok v s4 : Out SV).bind f = f v s4 from fun _ => rfl] at P'
              intro w G5 H5 x5 R5 res
              cases hvd : v.d with
              | none => simp only [hvd] at P'; exact (hbad P').elim
              | some d =>
                simp only [hvd] at P'
                unfold compNext at P'
                by_cases hz : acc.length < lim
                · simp only [if_pos hz] at P'
                  obtain ⟨G6, x6, R6, r6⟩ := res.freeze R5 hvd
                  obtain ⟨R7, g7, h7, n7⟩ := R6.unpin hn hbD hrD
                  have n8 : NoSlot (L2.wipe σ2 vs1) (s4.wipe vs1) Da := fun i y e1 e2 q => by
                    obtain ⟨a1, a2⟩ := foldl_none e1
                    refine n7 i y a1 e2 ?_
                    rw [← q, ← wipeS_get (x := none) (σ := σ3) a2, hw vs1 hin1, wipe_twice]
                  have R8 := R7.blk vs1
                  rw [hw vs1 hin1, wipe_twice] at R8
                  have racc' := racc.mono ((((x2.trans x3).trans x4).trans x5).trans x6)
                  exact ⟨vacc, h7, by rw [racc.length]; exact szl hz, hlt, G6, s4.wipe vs1, acc ++ [d], vacc ++ [w], ((((xg.trans x2).trans x3).trans x4).trans x5).trans x6, R8.other hn g7 n8, slot_wiped, g7, upd_same, n8, racc'.append (.one r6), .inl ((pv' hok).mono ((((x2.trans x3).trans x4).trans x5).trans x6)), P'⟩
                · simp only [if_neg hz] at P'
                  exact (hbad P').elim
    · rw [if_neg (by rw [decide_eq_false hok]; exact Bool.false_ne_true)] at P'
      exact (hbad P').elim
  · have hge : items1.length ≤ i := Nat.le_of_not_lt hlt
    have hdrop : items1.drop i = [] := List.drop_eq_nil_of_le hge
    rw [hdrop] at P'
    unfold compRun at P'
    by_cases hok : s'.looks ps1 = some ds1
    · rw [if_pos (decide_eq_true hok)] at P'
      exact .inl ⟨(hJ ps1 F rfl (L2.wipe σ2 vs1) G' H' s' i R' (pv' hok) hok).1 hge, fin G' H' s' acc vacc xg R' hgD hHD nsD racc P'⟩
    · rw [if_neg (by rw [decide_eq_false hok]; exact Bool.false_ne_true)] at P'
      exact (hbad P').elim
end
end Den
set_option Elab.async false
set_option linter.all false
set_option maxRecDepth 100000
set_option autoImplicit false
set_option maxHeartbeats 4000000
namespace Den
open PySem PySem.Spec PyProof.Rows L2
section
variable {X : Cx} {Tb : Tab} {N : List Str} {sc : Scope} {fnb : Str → Bool} {n : Nat} {E : Env} {CA : Nat → Option Addr} {W : WX}
theorem s_comp2 (C : Ctx X Tb N sc fnb n E CA W) {own : List (Str × Nat)} {vs1 : List Nat} {tgx tg1 : Tg} {it it1 : It} {t t1 : T} {x : Den.X} (hin : tgIn (own.map (·.2)) tgx = true) (hin1 : tgIn vs1 tg1 = true) (hv : ∀ i ∈ vs1, i ∈ own.map (·.2)) {σ : L2.St} {H : Hp} {Q : VK} (h : denE X.K CA W (evX E (.comp2 own vs1 tgx it t tg1 it1 t1 x)) σ H Q) :
    tLc2 (denI X.K CA W it (evIt E it)) (gDen X.K CA tgx) (denT X.K CA W0 (evT E t)) (denI X.K CA W0 it1 (evIt E it1)) (gDen X.K CA tg1) (denT X.K CA W0 (evT E t1)) (denE X.K CA W0 (evX E x)) (own.map (·.2)) vs1 σ H Q := by
  obtain ⟨F, G, s, hK, hC, R, P0⟩ := h
  generalize hown : own.map (·.2) = ow at *
  have P : PostE F G σ W Q ((evIt E it s).bind fun ps s1 => match (s1.looks ps) with
    | none => .bad
    | some ds => match itSem it ds with
      | none => .bad
      | some items => (foldRun (fun acc s d => match S.asg tgx d s with
          | none => .bad
          | some s' => (evT E t s').bind fun c s2 => if c = true then (evIt E it1 s2).bind fun ps1 s3 => match (s3.looks ps1) with
              | none => .bad
              | some ds1 => match itSem it1 ds1 with
                | none => .bad
                | some items1 => (compRun (fun s d => match S.asg tg1 d s with
                    | none => .bad
                    | some s' => (evT E t1 s').bind fun c s2 => if c = true then (evX E x s2).bind fun v s3 => match v.d with
                        | some d => .ok (some d) (s3.wipe vs1)
                        | none => .bad
                      else .ok none (s2.wipe vs1)) (fun s => decide (s.looks ps1 = some ds1)) items1 acc (s3.wipe vs1)).bind fun acc' s4 => .ok acc' (s4.wipe ow)
            else .ok acc (s2.wipe ow)) (fun s => decide (s.looks ps = some ds)) items [] (s1.wipe ow)).bind fun acc s2 => .ok (.own (.lst acc)) (s1.restore s2 ow)) := by
    rw [← hown]; exact P0
  clear P0
  refine ⟨F, G, s, hK, hC, R, ?_⟩
  cases hm : evIt E it s with
  | ex c p s1 => rw [hm] at P; exact P
  | bad => rw [hm] at P; exact P
  | ok ps s1 =>
    rw [hm] at P
    rw [show ∀ f, (Out.ok ps s1 : Out (List PV)).bind f = f ps s1 from fun _ => rfl] at P
    intro vs G1 H1 x1 R1 pvs
    cases hl : s1.looks ps with
    | none => simp only [hl] at P; exact P.elim
    | some ds =>
      simp only [hl] at P
      cases hit : itSem it ds with
      | none => simp only [hit] at P; exact P.elim
      | some items =>
        simp only [hit] at P
        refine ⟨ds, items, rfl, hit, fun J hJ Da hD => ?_⟩
        have hn : F.H0 Da = none := R1.h0 hD
        have hbD : F.B Da = none := by
          cases q : F.B Da with
          | none => rfl
          | some u => have := R1.bh _ _ q; rw [hn] at this; cases this
        have hrD : Da ∉ F.rs := R1.apart hn
        have hg1 : G1 Da = none := gnone R1.gh hD
        have ns0 : NoSlot σ s1 Da := fun i y e1 e2 => no_slot R1 hD i y e1 e2
        have nsw : NoSlot (L2.wipe σ ow) (s1.wipe ow) Da := fun i y e1 e2 q => by
          obtain ⟨a1, a2⟩ := foldl_none e1
          rw [wipeS_get (x := none) a2] at q
          exact ns0 i y a1 e2 q
        refine ⟨fun i m H' => m = items.length - i ∧ i ≤ items.length ∧ ∃ G' s' acc vacc, Ex G1 G' ∧ RS F G' H' (L2.wipe σ ow) s' ∧ (∀ i ∈ ow, s'.slot i = none) ∧ G' Da = none ∧ H' Da = some (.lst vacc) ∧ NoSlot (L2.wipe σ ow) s' Da ∧ Reps F.K F.CA G' vacc acc ∧
          PostE F G1 σ W Q ((foldRun (fun acc s d => match S.asg tgx d s with
          | none => .bad
          | some s' => (evT E t s').bind fun c s2 => if c = true then (evIt E it1 s2).bind fun ps1 s3 => match (s3.looks ps1) with
              | none => .bad
              | some ds1 => match itSem it1 ds1 with
                | none => .bad
                | some items1 => (compRun (fun s d => match S.asg tg1 d s with
                    | none => .bad
                    | some s' => (evT E t1 s').bind fun c s2 => if c = true then (evX E x s2).bind fun v s3 => match v.d with
                        | some d => .ok (some d) (s3.wipe vs1)
                        | none => .bad
                      else .ok none (s2.wipe vs1)) (fun s => decide (s.looks ps1 = some ds1)) items1 acc (s3.wipe vs1)).bind fun acc' s4 => .ok acc' (s4.wipe ow)
            else .ok acc (s2.wipe ow)) (fun s => decide (s.looks ps = some ds)) (items.drop i) acc s').bind fun acc s2 => .ok (.own (.lst acc)) (s1.restore s2 ow)), ⟨items.length, rfl, Nat.zero_le _, G1, s1.wipe ow, [], [], Evl.Ex.refl _, ?_, slot_wiped, hg1, upd_same, nsw, .nil, P.mono x1⟩, ?_⟩
        · exact (R1.grow (Grow.newH R1.gh hD)).blk ow
        · rintro i m H' ⟨rfl, hi', G', s', acc, vacc, xg, R', hso, hgD, hHD, nsD, racc, P'⟩
          have pv' : ∀ {ds' : List D}, s'.looks ps = some ds' → PVs F G' (L2.wipe σ ow) vs ps := fun {ds'} hl' => (PVs.blk hso pvs hl').mono xg
          by_cases hlt : i < items.length
          · have hdrop : items.drop i = items[i] :: items.drop (i + 1) := List.drop_eq_getElem_cons hlt
            rw [hdrop] at P'
            unfold foldRun at P'
            by_cases hok : s'.looks ps = some ds
            · rw [if_pos (decide_eq_true hok)] at P'
              have wk := (hJ ps F rfl (L2.wipe σ ow) G' H' s' i R' (pv' hok) hok).2 items[i] (List.getElem?_eq_getElem hlt)
              refine .inr ⟨wk.1, fun H2 => i + 1 ≤ items.length ∧ ∃ G' s' acc vacc, Ex G1 G' ∧ RS F G' H2 (L2.wipe σ ow) s' ∧ (∀ i ∈ ow, s'.slot i = none) ∧ G' Da = none ∧ H2 Da = some (.lst vacc) ∧ NoSlot (L2.wipe σ ow) s' Da ∧ Reps F.K F.CA G' vacc acc ∧
                PostE F G1 σ W Q ((foldRun (fun acc s d => match S.asg tgx d s with
          | none => .bad
          | some s' => (evT E t s').bind fun c s2 => if c = true then (evIt E it1 s2).bind fun ps1 s3 => match (s3.looks ps1) with
              | none => .bad
              | some ds1 => match itSem it1 ds1 with
                | none => .bad
                | some items1 => (compRun (fun s d => match S.asg tg1 d s with
                    | none => .bad
                    | some s' => (evT E t1 s').bind fun c s2 => if c = true then (evX E x s2).bind fun v s3 => match v.d with
                        | some d => .ok (some d) (s3.wipe vs1)
                        | none => .bad
                      else .ok none (s2.wipe vs1)) (fun s => decide (s.looks ps1 = some ds1)) items1 acc (s3.wipe vs1)).bind fun acc' s4 => .ok acc' (s4.wipe ow)
            else .ok acc (s2.wipe ow)) (fun s => decide (s.looks ps = some ds)) (items.drop (i + 1)) acc s').bind fun acc s2 => .ok (.own (.lst acc)) (s1.restore s2 ow)), fun H2 h2 => ⟨items.length - (i + 1), by omega, rfl, h2.1, h2.2⟩, fun y H2 hy => ?_⟩
              have Rp := R'.pin hn hgD hHD nsD
              obtain ⟨G2, x2, R2, r2⟩ := ((hJ ps (F.pin Da (.lst vacc)) rfl (L2.wipe σ ow) G' H' s' i Rp (pv' hok).pin hok).2 items[i] (List.getElem?_eq_getElem hlt)).2 y H2 hy
              cases ha : S.asg tgx items[i] s' with
              | none => simp only [ha] at P'; exact P'.elim
              | some s2 =>
                simp only [ha] at P'
                refine ⟨F.pin Da (.lst vacc), G2, s', items[i], s2, hK, hC, R2, r2, ha, fun σ3 G3 H3 x3 R3 hw => ⟨(hw ow hin).trans wipe_twice, F.pin Da (.lst vacc), G3, s2, hK, hC, R3, ?_⟩⟩
                cases ht2 : evT E t s2 with
                | ex c p s1 => simp only [ht2] at P'; exact P'.elim
                | bad => simp only [ht2] at P'; exact P'.elim
                | ok b s3 =>
                  simp only [ht2] at P'
                  rw [show ∀ {α : Type} (f : Bool → S → Out α), (Out.ok b s3 : Out Bool).bind f = f b s3 from fun _ => rfl] at P'
                  intro G4 H4 x4 R4
                  cases b with
                  | false =>
                    rw [if_neg Bool.false_ne_true] at P' ⊢
                    obtain ⟨R5, g5, h5, n5⟩ := R4.unpin hn hbD hrD
                    have R6 := R5.blk ow
                    rw [hw ow hin, wipe_twice] at R6
                    refine ⟨hlt, G4, s3.wipe ow, acc, vacc, ((xg.trans x2).trans x3).trans x4, R6, slot_wiped, g5, h5, fun i y e1 e2 q => ?_, racc.mono ((x2.trans x3).trans x4), P'⟩
                    obtain ⟨a1, a2⟩ := foldl_none e1
                    refine n5 i y a1 e2 ?_
                    rw [← q, ← wipeS_get (x := none) (σ := σ3) a2, hw ow hin, wipe_twice]
                  | true =>
                    rw [if_pos rfl] at P' ⊢
                    refine ⟨F.pin Da (.lst vacc), G4, s3, hK, hC, R4, ?_⟩
                    cases hx2 : evIt E it1 s3 with
                    | ex c p s1 => simp only [hx2] at P'; exact P'.elim
                    | bad => simp only [hx2] at P'; exact P'.elim
                    | ok ps1 s4 =>
                      simp only [hx2] at P'
                      rw [show ∀ {α : Type} (f : List PV → S → Out α), (Out.ok ps1 s4 : Out (List PV)).bind f = f ps1 s4 from fun _ => rfl] at P'
                      intro ws G5 H5 x5 R5 pvs1
                      cases hl1 : s4.looks ps1 with
                      | none => simp only [hl1] at P'; exact P'.elim
                      | some ds1 =>
                        simp only [hl1] at P'
                        cases hit1 : itSem it1 ds1 with
                        | none => simp only [hit1] at P'; exact P'.elim
                        | some items1 =>
                          simp only [hit1] at P'
                          refine ⟨ds1, items1, rfl, hit1, fun J1 hJ1 => ?_⟩
                          obtain ⟨R6, g6, h6, n6⟩ := R5.unpin hn hbD hrD
                          have R7 := R6.blk vs1
                          have n7 : NoSlot (L2.wipe σ3 vs1) (s4.wipe vs1) Da := fun i y e1 e2 q => by
                            obtain ⟨a1, a2⟩ := foldl_none e1
                            rw [wipeS_get (x := none) a2] at q
                            exact n6 i y a1 e2 q
                          have hv' : ∀ i ∈ vs1, i ∈ ow := hv
                          have ww : L2.wipe (L2.wipe σ3 vs1) ow = L2.wipe σ ow := by rw [wipe_sub hv', hw ow hin, wipe_twice]
                          refine lc_inner hK hC hin1 hn hbD hrD (ps1 := ps1) (ds1 := ds1) (items1 := items1) (vs := ws) hJ1 R7 slot_wiped g6 h6 n7 (racc.mono (((x2.trans x3).trans x4).trans x5))
                            (by
                              by_cases q : (s4.wipe vs1).looks ps1 = some ds1
                              · exact .inl (PVs.blk slot_wiped pvs1.unpin q)
                              · exact .inr q)
                            (PP := fun r => PostE F G1 σ W Q ((foldNext (foldRun (fun acc s d => match S.asg tgx d s with
          | none => .bad
          | some s' => (evT E t s').bind fun c s2 => if c = true then (evIt E it1 s2).bind fun ps1 s3 => match (s3.looks ps1) with
              | none => .bad
              | some ds1 => match itSem it1 ds1 with
                | none => .bad
                | some items1 => (compRun (fun s d => match S.asg tg1 d s with
                    | none => .bad
                    | some s' => (evT E t1 s').bind fun c s2 => if c = true then (evX E x s2).bind fun v s3 => match v.d with
                        | some d => .ok (some d) (s3.wipe vs1)
                        | none => .bad
                      else .ok none (s2.wipe vs1)) (fun s => decide (s.looks ps1 = some ds1)) items1 acc (s3.wipe vs1)).bind fun acc' s4 => .ok acc' (s4.wipe ow)
            else .ok acc (s2.wipe ow)) (fun s => decide (s.looks ps = some ds)) (items.drop (i + 1))) (r.bind fun acc' s4 => .ok acc' (s4.wipe ow))).bind fun acc s2 => .ok (.own (.lst acc)) (s1.restore s2 ow))) (fun z => z.elim) P' ?_
                          intro G8 H8 s8 acc8 vacc8 x8 R8 g8 h8 n8 racc8 P8
                          have R9 := R8.blk ow
                          rw [ww] at R9
                          refine ⟨hlt, G8, s8.wipe ow, acc8, vacc8, ((((xg.trans x2).trans x3).trans x4).trans x5).trans x8, R9, slot_wiped, g8, h8, fun i y e1 e2 q => ?_, racc8, P8⟩
                          obtain ⟨a1, a2⟩ := foldl_none e1
                          refine n8 i y a1 e2 ?_
                          rw [← q, ← ww, wipeS_get (x := none) a2]
            · rw [if_neg (by rw [decide_eq_false hok]; exact Bool.false_ne_true)] at P'
              exact P'.elim
          · have hge : items.length ≤ i := Nat.le_of_not_lt hlt
            have hdrop : items.drop i = [] := List.drop_eq_nil_of_le hge
            rw [hdrop] at P'
            unfold foldRun at P'
            by_cases hok : s'.looks ps = some ds
            · rw [if_pos (decide_eq_true hok)] at P'
              have P' : PostE F G1 σ W Q (.ok (.own (.lst acc)) (s1.restore s' ow)) := P'
              have Rr := RS.restore R1 xg R'
              refine .inl ⟨(hJ ps F rfl (L2.wipe σ ow) G' H' s' i R' (pv' hok) hok).1 hge, P' (.ref Da) G' H' xg Rr ⟨⟨Da, rfl, .lst hHD racc, hgD, hn⟩, fun _ => (by intro z; cases z), fun _ j y e1 e2 q => ?_⟩⟩
              rcases foldl_res e1 with ⟨a1, a2⟩ | ⟨a1, a2⟩
              · split at a2
                · cases a2; cases e2
                · cases a2
              · exact nsD j y a2 e2 (by rw [wipeS_get (x := none) a1]; exact q)
            · rw [if_neg (by rw [decide_eq_false hok]; exact Bool.false_ne_true)] at P'
              exact P'.elim
end
end Den
set_option Elab.async false
set_option linter.all false
set_option maxRecDepth 100000
set_option autoImplicit false
set_option maxHeartbeats 4000000
namespace Den
open PySem PySem.Spec PyProof.Rows L2
section
variable {Tb : Tab} {N : List Str} {n : Nat} {E : Env} {CA : Nat → Option Addr}
theorem and2 {a b : Bool} (h : (a && b) = true) : a = true ∧ b = true := by rw [Bool.and_eq_true] at h; exact h
mutual
theorem sX : ∀ (x : Den.X) {X : Cx} {sc : Scope} {fnb : Str → Bool} {W : WX} (C : Ctx X Tb N sc fnb n E CA W) (e : Expr), chkX Tb N sc x e = true → PE X e (denE X.K CA W (evX E x))
  | .var i, X, sc, fnb, W, C, e, h => by
    unfold chkX at h
    split at h
    · exact s_var C h
    · cases h
  | .int i, X, sc, fnb, W, C, e, h => by
    unfold chkX at h
    split at h
    · have := of_decide_eq_true h
      subst this
      exact pe_int.imp fun σ H Q h => den_c rfl (fun _ => rfl) h
    · cases h
  | .str i, X, sc, fnb, W, C, e, h => by
    unfold chkX at h
    split at h
    · have := of_decide_eq_true h
      subst this
      exact pe_str.imp fun σ H Q h => den_c rfl (fun _ => rfl) h
    · cases h
  | .bl i, X, sc, fnb, W, C, e, h => by
    unfold chkX at h
    split at h
    · have := of_decide_eq_true h
      subst this
      exact pe_bl.imp fun σ H Q h => den_c rfl (fun _ => rfl) h
    · cases h
  | .non, X, sc, fnb, W, C, e, h => by
    unfold chkX at h
    split at h
    · exact pe_non.imp fun σ H Q h => den_c rfl (fun _ => rfl) h
    · cases h
  | .glo x d, X, sc, fnb, W, C, e, h => by
    unfold chkX at h
    split at h
    · obtain ⟨h, h3⟩ := and2 h
      obtain ⟨h1, h2⟩ := and2 h
      have := of_decide_eq_true h1
      subst this
      exact s_glo C h2 (of_decide_eq_true h3)
    · cases h
  | .op o xs, X, sc, fnb, W, C, e, h => by
    unfold chkX at h
    cases hs : shape o e with
    | none => rw [hs] at h; cases h
    | some p =>
      obtain ⟨gs, es⟩ := p
      rw [hs] at h
      obtain ⟨h1, h2⟩ := and2 h
      exact shape_sound C hs h1 (sXs xs C es h2)
  | .lst xs, X, sc, fnb, W, C, e, h => by
    unfold chkX at h
    split at h
    · exact s_lst (sXs xs C _ h).ms
    · cases h
  | .tup xs, X, sc, fnb, W, C, e, h => by
    unfold chkX at h
    split at h
    · exact s_tup (sXs xs C _ h).ms
    · cases h
  | .cmp2 o p a b c, X, sc, fnb, W, C, e, h => by
    unfold chkX at h
    split at h
    · obtain ⟨h, hc⟩ := and2 h
      obtain ⟨h, hb⟩ := and2 h
      obtain ⟨h, ha⟩ := and2 h
      obtain ⟨h, pq⟩ := and2 h
      obtain ⟨h, pr⟩ := and2 h
      obtain ⟨h, pl⟩ := and2 h
      obtain ⟨h1, h2⟩ := and2 h
      exact s_cmp2 C (of_decide_eq_true h1) (of_decide_eq_true h2) pq (pe_p C ha (sX a C _ ha)) (pe_p C hb (sX b C _ hb)) (pe_p C hc (sX c C _ hc))
    · cases h
  | .and a b, X, sc, fnb, W, C, e, h => by
    unfold chkX at h
    split at h
    · obtain ⟨ha, hb⟩ := and2 h
      exact s_and (sX a C _ ha) (pe_one (sX b C _ hb))
    · obtain ⟨ha, hb⟩ := and2 h
      exact s_and (sX a C _ ha) (sX b C _ hb)
    · cases h
  | .or a b, X, sc, fnb, W, C, e, h => by
    unfold chkX at h
    split at h
    · obtain ⟨ha, hb⟩ := and2 h
      exact s_or (sX a C _ ha) (pe_one (sX b C _ hb))
    · obtain ⟨ha, hb⟩ := and2 h
      exact s_or (sX a C _ ha) (sX b C _ hb)
    · cases h
  | .not a, X, sc, fnb, W, C, e, h => by
    unfold chkX at h
    split at h
    · exact s_not (sX a C _ h)
    · cases h
  | .ite t a b, X, sc, fnb, W, C, e, h => by
    unfold chkX at h
    split at h
    · obtain ⟨h, hb⟩ := and2 h
      obtain ⟨ht, ha⟩ := and2 h
      exact s_ite (sT t C _ ht).1 (sX a C _ ha) (sX b C _ hb)
    · cases h
  | .sl3 a b c, X, sc, fnb, W, C, e, h => by
    unfold chkX at h
    split at h
    · obtain ⟨h, hc⟩ := and2 h
      obtain ⟨h, hb⟩ := and2 h
      obtain ⟨h, ha⟩ := and2 h
      exact op_sl3 C (pe_p C ha (sX a C _ ha)) (pe_p C hb (sX b C _ hb)) (pe_p C hc (sX c C _ hc))
    · cases h
  | .bm m o xs, X, sc, fnb, W, C, e, h => by
    unfold chkX at h
    split at h
    · obtain ⟨h, hxs⟩ := and2 h
      obtain ⟨h, ho⟩ := and2 h
      obtain ⟨h, hl⟩ := and2 h
      obtain ⟨h, pa⟩ := and2 h
      obtain ⟨h1, h2⟩ := and2 h
      have e1 := of_decide_eq_true h1
      subst e1
      have all := sXs xs C _ hxs
      exact s_bm C h2 pa all.plains (of_decide_eq_true hl) (pe_p C ho (sX o C _ ho)) all.ps
    · cases h
  | .call f ms xs, X, sc, fnb, W, C, e, h => by
    unfold chkX at h
    split at h
    · obtain ⟨h, hxs⟩ := and2 h
      obtain ⟨h1, hg⟩ := and2 h
      split at h1
      · rename_i I hI
        obtain ⟨h1, h3⟩ := and2 h1
        obtain ⟨h1, h2⟩ := and2 h1
        have e1 := of_decide_eq_true h1
        subst e1
        have all := sXs xs C _ hxs
        exact s_call C hI (of_decide_eq_true h3) hg all.plains all.ps
      · cases h1
    · cases h
  | .fld cs f o, X, sc, fnb, W, C, e, h => by
    unfold chkX at h
    split at h
    · obtain ⟨h, ho⟩ := and2 h
      obtain ⟨h, hf⟩ := and2 h
      obtain ⟨h1, pa⟩ := and2 h
      have e1 := of_decide_eq_true h1
      subst e1
      exact s_fld C pa hf (pe_p C ho (sX o C _ ho))
    · cases h
  | .con cs f d o, X, sc, fnb, W, C, e, h => by
    unfold chkX at h
    split at h
    · obtain ⟨h, ho⟩ := and2 h
      obtain ⟨h, hf⟩ := and2 h
      obtain ⟨h1, pa⟩ := and2 h
      have e1 := of_decide_eq_true h1
      subst e1
      exact s_con C pa hf (pe_p C ho (sX o C _ ho))
    · cases h
  | .dget a b, X, sc, fnb, W, C, e, h => by
    unfold chkX at h
    split at h
    · obtain ⟨h, hb⟩ := and2 h
      obtain ⟨pr, ha⟩ := and2 h
      exact s_dget C pr (pe_p C ha (sX a C _ ha)) (pe_p C hb (sX b C _ hb))
    · cases h
  | .meth m cs ms o xs, X, sc, fnb, W, C, e, h => by
    unfold chkX at h
    split at h
    · obtain ⟨h, hxs⟩ := and2 h
      obtain ⟨h, ho⟩ := and2 h
      obtain ⟨h, hc⟩ := and2 h
      obtain ⟨h, pa⟩ := and2 h
      obtain ⟨h1, hl⟩ := and2 h
      have e1 := of_decide_eq_true h1
      subst e1
      have : xs = .nil := by
        cases xs with
        | nil => rfl
        | cons _ _ => unfold chkXs at hxs; cases hxs
      subst this
      exact s_meth0 C hl pa hc (pe_p C ho (sX o C _ ho))
    · obtain ⟨h, hxs⟩ := and2 h
      obtain ⟨h, ho⟩ := and2 h
      obtain ⟨h, hc⟩ := and2 h
      obtain ⟨h, hn⟩ := and2 h
      obtain ⟨h, pa⟩ := and2 h
      obtain ⟨h1, hl⟩ := and2 h
      have e1 := of_decide_eq_true h1
      subst e1
      have all := sXs xs C _ hxs
      exact s_meth C hl pa (of_decide_eq_true hn) hc (pe_p C ho (sX o C _ ho)) all.plains all.ps
    · cases h
  | .scall f ms xs, X, sc, fnb, W, C, e, h => by
    unfold chkX at h
    split at h
    · obtain ⟨h, hxs⟩ := and2 h
      obtain ⟨h, hc⟩ := and2 h
      obtain ⟨h, hg⟩ := and2 h
      obtain ⟨hl, hn⟩ := and2 h
      have all := sXs xs C _ hxs
      exact s_scall C hl (of_decide_eq_true hn) hg hc all.plains all.ps
    · cases h
  | .make c f xs, X, sc, fnb, W, C, e, h => by
    unfold chkX at h
    split at h
    · obtain ⟨h, hxs⟩ := and2 h
      obtain ⟨hg, hc⟩ := and2 h
      have all := sXs xs C _ hxs
      exact s_make C hg hc all.plains all.ps
    · cases h
  | .mut m i xs, X, sc, fnb, W, C, e, h => by
    unfold chkX at h
    split at h
    · obtain ⟨h, hxs⟩ := and2 h
      obtain ⟨h, hm⟩ := and2 h
      obtain ⟨h, hn⟩ := and2 h
      obtain ⟨h1, hl⟩ := and2 h
      have e1 := of_decide_eq_true h1
      subst e1
      have : xs = .nil := by
        cases xs with
        | nil => rfl
        | cons _ _ => unfold chkXs at hxs; cases hxs
      subst this
      exact s_mut0 C hl hn (by cases m <;> first | (exact .inl rfl) | (exact .inr (.inl rfl)) | (exact .inr (.inr rfl)) | (exact Bool.noConfusion hm))
    · obtain ⟨h, hxs⟩ := and2 h
      obtain ⟨h, hlen⟩ := and2 h
      obtain ⟨h, hm⟩ := and2 h
      obtain ⟨h, hn⟩ := and2 h
      obtain ⟨h1, hl⟩ := and2 h
      have e1 := of_decide_eq_true h1
      subst e1
      have all := sXs xs C _ hxs
      exact s_mut1 C hl hn (by refine ⟨?_, ?_, ?_⟩ <;> (intro z; subst z; exact Bool.noConfusion hm)) (of_decide_eq_true hlen) all.plains all.ms
    · cases h
  | .comp own tgx it t x, X, sc, fnb, W, C, e, h => by
    unfold chkX at h
    split at h
    · obtain ⟨h, hx⟩ := and2 h
      obtain ⟨h, ht⟩ := and2 h
      obtain ⟨h, hin⟩ := and2 h
      obtain ⟨h, htg⟩ := and2 h
      obtain ⟨h, hit⟩ := and2 h
      obtain ⟨hb, pl⟩ := and2 h
      refine (pe_lc (own := own) C.calm (by rw [C.hN]; exact C.nd) (sIt it C _ _ hit) (blkOk_by (by rw [C.hN, C.hsc]; exact hb)) (fun s H c cl fp => sTg (C.blk s H _ c cl fp) _ _ htg) (fun s H c cl fp => tru_ts ht) (fun s H c cl fp => sX x (C.blk s H _ c cl fp) _ hx) (folded_of pl _)).imp fun σ H Q h => s_comp C (of_decide_eq_true hin) h
    · obtain ⟨h, hx⟩ := and2 h
      obtain ⟨h, ht⟩ := and2 h
      obtain ⟨h, hin⟩ := and2 h
      obtain ⟨h, htg⟩ := and2 h
      obtain ⟨h, hit⟩ := and2 h
      obtain ⟨hb, pl⟩ := and2 h
      refine (pe_lc (own := own) C.calm (by rw [C.hN]; exact C.nd) (sIt it C _ _ hit) (blkOk_by (by rw [C.hN, C.hsc]; exact hb)) (fun s H c cl fp => sTg (C.blk s H _ c cl fp) _ _ htg) (fun s H c cl fp => pts_one (sT t (C.blk s H _ c cl fp) _ ht).1) (fun s H c cl fp => sX x (C.blk s H _ c cl fp) _ hx) (folded_of pl _)).imp fun σ H Q h => s_comp C (of_decide_eq_true hin) h
    · cases h
  | .comp2 own vs1 tgx it t tg1 it1 t1 x, X, sc, fnb, W, C, e, h => by
    unfold chkX at h
    split at h
    · obtain ⟨h, hx⟩ := and2 h
      obtain ⟨h, ht1⟩ := and2 h
      obtain ⟨h, hin1⟩ := and2 h
      obtain ⟨h, htg1⟩ := and2 h
      obtain ⟨h, hit1⟩ := and2 h
      obtain ⟨h, ht⟩ := and2 h
      obtain ⟨h, hin⟩ := and2 h
      obtain ⟨h, htg⟩ := and2 h
      obtain ⟨h, hit⟩ := and2 h
      obtain ⟨h, hv⟩ := and2 h
      obtain ⟨h, pl1⟩ := and2 h
      obtain ⟨hb, pl⟩ := and2 h
      refine (pe_lc2 (own := own) (vs1 := vs1) C.calm (by rw [C.hN]; exact C.nd) (sIt it C _ _ hit) (blkOk_by (by rw [C.hN, C.hsc]; exact hb)) (of_decide_eq_true hv) (fun s H c cl fp => sTg (C.blk s H _ c cl fp) _ _ htg)
        (fun s H c cl fp => ?_) (fun s H c cl fp => sIt it1 (C.blk s H _ c cl fp) _ _ hit1) (fun s H c cl fp => sTg (C.blk s H _ c cl fp) _ _ htg1) (fun s H c cl fp => ?_) (fun s H c cl fp => sX x (C.blk s H _ c cl fp) _ hx) (folded_of pl _) (fun env => folded_of pl1 env)).imp fun σ H Q h => s_comp2 C (of_decide_eq_true hin) (of_decide_eq_true hin1) (of_decide_eq_true hv) h
      · split at ht
        · exact tru_ts ht
        · exact pts_one (sT t (C.blk s H _ c cl fp) _ ht).1
        · cases ht
      · split at ht1
        · exact tru_ts ht1
        · exact pts_one (sT t1 (C.blk s H _ c cl fp) _ ht1).1
        · cases ht1
    · cases h
theorem sXs : ∀ (xs : XS) {X : Cx} {sc : Scope} {fnb : Str → Bool} {W : WX} (C : Ctx X Tb N sc fnb n E CA W) (es : List Expr), chkXs Tb N sc xs es = true → AllPE X Tb N sc E CA W xs es
  | .nil, X, sc, fnb, W, C, es, h => by
    unfold chkXs at h
    split at h
    · trivial
    · cases h
  | .cons x xs, X, sc, fnb, W, C, es, h => by
    unfold chkXs at h
    split at h
    · obtain ⟨h, h3⟩ := and2 h
      obtain ⟨h1, h2⟩ := and2 h
      have hx := sX x C _ h2
      exact ⟨⟨h1, hx, pe_p C h2 hx⟩, sXs xs C _ h3⟩
    · cases h
theorem sT : ∀ (t : T) {X : Cx} {sc : Scope} {fnb : Str → Bool} {W : WX} (C : Ctx X Tb N sc fnb n E CA W) (f : Expr), chkT Tb N sc t f = true → PT X f (denT X.K CA W (evT E t)) ∧ ∀ op vs pos, f = .BoolOp op vs pos → PW X f (denT X.K CA W (evT E t))
  | .tru, X, sc, fnb, W, C, f, h => by unfold chkT at h; cases h
  | .x e, X, sc, fnb, W, C, f, h => by
    unfold chkT at h
    obtain ⟨h1, h2⟩ := and2 h
    refine ⟨t_x h1 (pe_p C h2 (sX e C _ h2)), fun op vs pos e => ?_⟩
    subst e
    cases h1
  | .isN neg a, X, sc, fnb, W, C, f, h => by
    unfold chkT at h
    split at h
    · obtain ⟨h1, h2⟩ := and2 h
      have : neg = false := by cases neg with
        | false => rfl
        | true => cases h1
      subst this
      exact ⟨t_isN rfl (pe_p C h2 (sX a C _ h2)), fun op vs pos e => by cases e⟩
    · obtain ⟨h1, h2⟩ := and2 h
      subst h1
      exact ⟨t_isN rfl (pe_p C h2 (sX a C _ h2)), fun op vs pos e => by cases e⟩
    · cases h
  | .cmp o a b, X, sc, fnb, W, C, f, h => by
    unfold chkT at h
    split at h
    · obtain ⟨h, hb⟩ := and2 h
      obtain ⟨h, ha⟩ := and2 h
      obtain ⟨h1, pr⟩ := and2 h
      exact ⟨t_cmp C (of_decide_eq_true h1) pr (pe_p C ha (sX a C _ ha)) (pe_p C hb (sX b C _ hb)), fun op vs pos e => by cases e⟩
    · cases h
  | .cmp2 o p a b c, X, sc, fnb, W, C, f, h => by
    unfold chkT at h
    split at h
    · obtain ⟨h, hc⟩ := and2 h
      obtain ⟨h, hb⟩ := and2 h
      obtain ⟨h, ha⟩ := and2 h
      obtain ⟨h, pq⟩ := and2 h
      obtain ⟨h, pr⟩ := and2 h
      obtain ⟨h1, h2⟩ := and2 h
      exact ⟨t_cmp2 C (of_decide_eq_true h1) (of_decide_eq_true h2) pq (pe_p C ha (sX a C _ ha)) (pe_p C hb (sX b C _ hb)) (pe_p C hc (sX c C _ hc)), fun op vs pos e => by cases e⟩
    · cases h
  | .and a b, X, sc, fnb, W, C, f, h => by
    unfold chkT at h
    split at h
    · obtain ⟨ha, hb⟩ := and2 h
      have := t_and (sT a C _ ha).1 (pw_and1 (pos := by assumption) (sT b C _ hb).1)
      exact ⟨this.pt, fun _ _ _ _ => this⟩
    · obtain ⟨ha, hb⟩ := and2 h
      have := t_and (sT a C _ ha).1 ((sT b C _ hb).2 _ _ _ rfl)
      exact ⟨this.pt, fun _ _ _ _ => this⟩
    · cases h
  | .or a b, X, sc, fnb, W, C, f, h => by
    unfold chkT at h
    split at h
    · obtain ⟨ha, hb⟩ := and2 h
      have := t_or (sT a C _ ha).1 (pw_or1 (pos := by assumption) (sT b C _ hb).1)
      exact ⟨this.pt, fun _ _ _ _ => this⟩
    · obtain ⟨ha, hb⟩ := and2 h
      have := t_or (sT a C _ ha).1 ((sT b C _ hb).2 _ _ _ rfl)
      exact ⟨this.pt, fun _ _ _ _ => this⟩
    · cases h
  | .not a, X, sc, fnb, W, C, f, h => by
    unfold chkT at h
    split at h
    · exact ⟨t_not (sT a C _ h).1, fun op vs pos e => by cases e⟩
    · cases h
theorem sIt : ∀ (it : It) {X : Cx} {sc : Scope} {fnb : Str → Bool} {W : WX} (C : Ctx X Tb N sc fnb n E CA W) (e tg : Expr), chkIt Tb N sc it e tg = true → PI X tg e (denI X.K CA W it (evIt E it))
  | .seq x, X, sc, fnb, W, C, e, tg, h => by
    unfold chkIt at h
    exact it_seq (pe_p C h (sX x C _ h))
  | .rng x, X, sc, fnb, W, C, e, tg, h => by
    unfold chkIt at h
    split at h
    · obtain ⟨h, hx⟩ := and2 h
      obtain ⟨h, pl⟩ := and2 h
      obtain ⟨h1, hg⟩ := and2 h
      have e1 := of_decide_eq_true h1
      subst e1
      exact it_rng C hg pl (pe_p C hx (sX x C _ hx))
    · cases h
  | .rng2 x y, X, sc, fnb, W, C, e, tg, h => by
    unfold chkIt at h
    split at h
    · obtain ⟨h, hy⟩ := and2 h
      obtain ⟨h, hx⟩ := and2 h
      obtain ⟨h, pl2⟩ := and2 h
      obtain ⟨h, pl⟩ := and2 h
      obtain ⟨h1, hg⟩ := and2 h
      have e1 := of_decide_eq_true h1
      subst e1
      exact it_rng2 C hg pl pl2 (pe_p C hx (sX x C _ hx)) (pe_p C hy (sX y C _ hy))
    · cases h
  | .enum x, X, sc, fnb, W, C, e, tg, h => by
    unfold chkIt at h
    split at h
    · obtain ⟨h, hx⟩ := and2 h
      obtain ⟨h, pl⟩ := and2 h
      obtain ⟨h, ht⟩ := and2 h
      obtain ⟨h1, hg⟩ := and2 h
      have e1 := of_decide_eq_true h1
      subst e1
      exact it_enum C ht hg pl (pe_p C hx (sX x C _ hx))
    · cases h
  | .enums x k, X, sc, fnb, W, C, e, tg, h => by
    unfold chkIt at h
    split at h
    · obtain ⟨h, hx⟩ := and2 h
      obtain ⟨h, pl⟩ := and2 h
      obtain ⟨h, ht⟩ := and2 h
      obtain ⟨h, hg⟩ := and2 h
      obtain ⟨h, hz⟩ := and2 h
      obtain ⟨h, hj⟩ := and2 h
      obtain ⟨h1, hs⟩ := and2 h
      have e1 := of_decide_eq_true h1
      have e2 := of_decide_eq_true hs
      have e3 := of_decide_eq_true hj
      subst e1 e2 e3
      exact it_enums C (of_decide_eq_true hz) ht hg pl (pe_p C hx (sX x C _ hx))
    · cases h
  | .zip x y, X, sc, fnb, W, C, e, tg, h => by
    unfold chkIt at h
    split at h
    · obtain ⟨h, hy⟩ := and2 h
      obtain ⟨h, hx⟩ := and2 h
      obtain ⟨h, pl2⟩ := and2 h
      obtain ⟨h, pl⟩ := and2 h
      obtain ⟨h, ht⟩ := and2 h
      obtain ⟨h1, hg⟩ := and2 h
      have e1 := of_decide_eq_true h1
      subst e1
      exact it_zip C ht hg pl pl2 (pe_p C hx (sX x C _ hx)) (pe_p C hy (sX y C _ hy))
    · cases h
  | .rev x, X, sc, fnb, W, C, e, tg, h => by
    unfold chkIt at h
    split at h
    · obtain ⟨h, hx⟩ := and2 h
      obtain ⟨h, pl⟩ := and2 h
      obtain ⟨h1, hg⟩ := and2 h
      have e1 := of_decide_eq_true h1
      subst e1
      exact it_rev C hg pl (pe_p C hx (sX x C _ hx))
    · cases h
end
end
end Den
set_option Elab.async false
set_option linter.all false
set_option maxRecDepth 100000
set_option autoImplicit false
set_option maxHeartbeats 4000000
namespace Den
open PySem PySem.Spec PyProof.Rows L2
/-! ### except suites -/
/-- what is known of the exception classes -/
structure ExcClass (K : PySem.W.Frag) (mg : Str → Option Value) (x : Str) (C : Addr) : Prop where
  g : mg x = some (.ref C)
  ex : PySem.W.excIn K C [.type "ValueError", .type "Exception", .type "BaseException", .type "object"] "ValueError.__new__" = true
  kp : PySem.W.keepIn K (.ref C) = true
  sb : PySem.W.subIn K (.ref C) (.type "BaseException") = some true
  ty : PySem.W.typeIn K (.ref C) = some (.type "type")
  ec : ExcC K C
  ve : PySem.W.kitOne K (.ref C) (.type "ValueError") = some true
structure ExcTab (K : PySem.W.Frag) (mg : Str → Option Value) (Tb : Tab) (sub : Nat → Nat → Option Bool) (CA : Nat → Option Addr) : Prop where
  cls : ∀ c x, Tb.exs[c]? = some x → ∃ C, CA c = some C ∧ ExcClass K mg x C
  kit : ∀ c c' b C C', sub c c' = some b → CA c = some C → CA c' = some C' → PySem.W.exmOne K (.ref C) (.ref C') = some b ∧ PySem.W.kitOne K (.ref C) (.ref C') = some b
  lt : ∀ c c' b, sub c c' = some b → c < Tb.exs.length ∧ c' < Tb.exs.length
section
variable (Tb : Tab) (N : List Str) (ei : Option Nat)
/-- isinstance(e, X) and the like -/
def chkBE (sc : Scope) : BE → Expr → Bool
  | .isc k, e => match e with
    | .Call (.Name f _) [.Name x _, .Name t _] [] _ => decide (f = "isinstance") && glT Tb sc f && glB sc t && decide (Tb.exs[k]? = some t) && (match ei with | some i => nameB N sc i x | none => false)
    | _ => false
  | .isv, e => match e with
    | .Call (.Name f _) [.Name x _, .Name t _] [] _ => decide (f = "isinstance") && glT Tb sc f && decide (t = "ValueError") && glT Tb sc t && (match ei with | some i => nameB N sc i x | none => false)
    | _ => false
  | .and a b, e => match e with
    | .BoolOp .And [v, w] _ => chkBE sc a v && chkBE sc b w
    | .BoolOp .And (v :: w :: u :: rest) pos => chkBE sc a v && chkBE sc b (.BoolOp .And (w :: u :: rest) pos)
    | _ => false
  | .or a b, e => match e with
    | .BoolOp .Or [v, w] _ => chkBE sc a v && chkBE sc b w
    | .BoolOp .Or (v :: w :: u :: rest) pos => chkBE sc a v && chkBE sc b (.BoolOp .Or (w :: u :: rest) pos)
    | _ => false
  | .not a, e => match e with
    | .UnaryOp .Not e _ => chkBE sc a e
    | _ => false
/-- .. as a test -/
def chkBT (sc : Scope) : BE → Expr → Bool
  | .and a b, e => match e with
    | .BoolOp .And [v, w] _ => chkBT sc a v && chkBT sc b w
    | .BoolOp .And (v :: w :: u :: rest) pos => chkBT sc a v && chkBT sc b (.BoolOp .And (w :: u :: rest) pos)
    | _ => false
  | .or a b, e => match e with
    | .BoolOp .Or [v, w] _ => chkBT sc a v && chkBT sc b w
    | .BoolOp .Or (v :: w :: u :: rest) pos => chkBT sc a v && chkBT sc b (.BoolOp .Or (w :: u :: rest) pos)
    | _ => false
  | .not a, e => match e with
    | .UnaryOp .Not e _ => chkBT sc a e
    | _ => false
  | b, e => plainT e && chkBE Tb N ei sc b e
mutual
def chkHX (sc : Scope) : HX → Expr → Bool
  | .lit d, e => match d, e with
    | .int i, .Constant (.int j) _ _ => decide (i = j)
    | .str i, .Constant (.str j) _ _ => decide (i = j)
    | .bl i, .Constant (.bool j) _ _ => decide (i = j)
    | .non, .Constant .none _ _ => true
    | _, _ => false
  | .var i, e => match e with
    | .Name x _ => nameB N sc i x
    | _ => false
  | .be b, e => chkBE Tb N ei sc b e
  | .fld f, e => false
  | .inc i k, e => match e with
    | .BinOp (.Name x _) .Add (.Constant (.int j) _ _) _ => nameB N sc i x && decide (j = k)
    | _ => false
  | .tup xs, e => match e with
    | .Tuple es _ _ => chkHXs sc xs es
    | _ => false
def chkHXs (sc : Scope) : List HX → List Expr → Bool
  | [], es => match es with
    | [] => true
    | _ => false
  | x :: xs, es => match es with
    | e :: es => plain e && chkHX sc x e && chkHXs sc xs es
    | _ => false
end
def noComp : Expr → Bool
  | .ListComp .. => false | .SetComp .. => false | .DictComp .. => false | _ => true
def locB (sc : Scope) (i : Nat) (y : Str) : Bool := okName y && decide (N[i]? = some y) && (decide (sc.names.lookup y = some .local) || decide (sc.names.lookup y = some .cell))
mutual
def chkH (sc : Scope) : HC → Stmt → Bool
  | .pass, s => match s with | .Pass _ => true | _ => false
  | .brk, s => match s with | .Break _ => true | _ => false
  | .cont, s => match s with | .Continue _ => true | _ => false
  | .ret x, s => match s with | .Return (some e) _ => chkHX Tb N ei sc x e | _ => false
  | .retn, s => match s with | .Return none _ => true | _ => false
  | .set i x, s => match s with
    | .Assign [.Name y _] e _ => locB N sc i y && decide (ei ≠ some i) && noComp e && chkHX Tb N ei sc x e
    | _ => false
  | .iff b p q, s => match s with
    | .If c p' q' _ => chkBT Tb N ei sc b c && chkHs sc p p' && chkHs sc q q'
    | _ => false
def chkHs (sc : Scope) : List HC → List Stmt → Bool
  | [], ss => match ss with | [] => true | _ => false
  | c :: cs, ss => match ss with
    | s :: ss => chkH sc c s && chkHs sc cs ss
    | [] => false
end
end
/-- the context within a suite -/
structure CtxH (X : Cx) (a : Addr) (oe : Obj) (cls : Value) (d : Option Addr) (pn : List (Addr × Obj)) (Tb : Tab) (N : List Str) (sc : Scope) (sub : Nat → Nat → Option Bool) (CA : Nat → Option Addr) : Prop where
  hN : X.N = N
  nd : N.Nodup
  hsc : X.env.scope = sc
  hfn : ∀ x, X.fn x = true
  bi : ∀ x, Tb.bi.contains x = true → X.mg x = none
  ex : ExcTab X.K X.mg Tb sub CA
  hz : Zc cls d oe
  hf : ∃ vs, oe.data = .fields vs
/-- what holds within it: the error's class, what it carries, its name -/
structure HOk (a : Addr) (cls : Value) (d : Option Addr) (ei : Option Nat) (c : Nat) (p : List (Str × D)) (F : Fr) (G H : Hp) (σ : L2.St) (s : S) : Prop where
  R : RS F G H σ s
  e : ExcOk F G H c p cls d
  nm : ∀ i, ei = some i → σ[i]? = some (some (.ref a)) ∧ s.slot i = none
theorem ExcOk.mono {F : Fr} {G G' H H' : Hp} {c : Nat} {p : List (Str × D)} {cls : Value} {d : Option Addr} (h : ExcOk F G H c p cls d) (x : Ex G G') : ExcOk F G' H' c p cls d := by
  cases h with
  | non a b => exact .non a b
  | dict a b c d e => exact .dict a (x _ _ b) c (d.mono x) e
section
variable {X : Cx} {a : Addr} {oe : Obj} {cls : Value} {d : Option Addr} {pn : List (Addr × Obj)} {Tb : Tab} {N : List Str} {sc : Scope} {sub : Nat → Nat → Option Bool} {CA : Nat → Option Addr} {ei : Option Nat}
def denB (K : PySem.W.Frag) (CA : Nat → Option Addr) (sub : Nat → Nat → Option Bool) (a : Addr) (cls : Value) (d : Option Addr) (ei : Option Nat) (b : BE) : TT := fun σ H Q =>
  ∃ F G s c p r, F.K = K ∧ F.CA = CA ∧ HOk a cls d ei c p F G H σ s ∧ (d = none) ∧ evBE sub c b = some r ∧ Q r H
def denBV (K : PySem.W.Frag) (CA : Nat → Option Addr) (sub : Nat → Nat → Option Bool) (a : Addr) (cls : Value) (d : Option Addr) (ei : Option Nat) (b : BE) : TE := fun σ H Q =>
  ∃ F G s c p r, F.K = K ∧ F.CA = CA ∧ HOk a cls d ei c p F G H σ s ∧ (d = none) ∧ evBE sub c b = some r ∧ Q (.bl r) H
theorem CtxH.name (C : CtxH X a oe cls d pn Tb N sc sub CA) {i : Nat} {x : Str} {pos : Pos} (h : nameB N sc i x = true) : PE (X.suite a ((a, oe) :: pn)) (.Name x pos) (tVar i) := by
  unfold nameB visB at h
  rw [Bool.and_eq_true, Bool.and_eq_true, decide_eq_true_eq] at h
  obtain ⟨d1, d2, _⟩ := okName_dbg h.1.1
  refine pe_var (X := X.suite a ((a, oe) :: pn)) (show X.N[i]? = some x by rw [C.hN]; exact h.2) ?_ d1 d2
  show Vis X.env.scope x
  rw [C.hsc]
  unfold Vis
  have := h.1.2
  split at this <;> first | (rename_i q; exact .inl q) | (rename_i q; exact .inr (.inl q)) | (rename_i q; exact .inr (.inr q)) | cases this
theorem CtxH.gl (C : CtxH X a oe cls d pn Tb N sc sub CA) {x : Str} (h : glB sc x = true) : Gl (X.suite a ((a, oe) :: pn)) x ∧ okName x = true := by
  unfold glB at h
  rw [Bool.and_eq_true, decide_eq_true_eq] at h
  exact ⟨by show X.env.scope.names.lookup x = some .globalImplicit; rw [C.hsc]; exact h.2, h.1⟩
theorem CtxH.glT (C : CtxH X a oe cls d pn Tb N sc sub CA) {x : Str} (h : glT Tb sc x = true) : Gl (X.suite a ((a, oe) :: pn)) x ∧ okName x = true ∧ X.mg x = none := by
  unfold Den.glT at h
  rw [Bool.and_eq_true] at h
  obtain ⟨g, o⟩ := C.gl h.1
  exact ⟨g, o, C.bi x h.2⟩
theorem b0_isinstance : bootBuiltins "isinstance" = some (.builtin "isinstance") := My.b0_isinstance
theorem s_be (C : CtxH X a oe cls d pn Tb N sc sub CA) : ∀ (b : BE) (e : Expr), chkBE Tb N ei sc b e = true → PE (X.suite a ((a, oe) :: pn)) e (denBV X.K CA sub a cls d ei b)
  | .isc k, e, h => by
    unfold chkBE at h
    split at h
    · rename_i f _ x _ t _ _ _
      obtain ⟨h, h5⟩ := and2 h
      obtain ⟨h, h4⟩ := and2 h
      obtain ⟨h, h3⟩ := and2 h
      obtain ⟨h1, h2⟩ := and2 h
      have e1 := of_decide_eq_true h1
      subst e1
      split at h5
      · rename_i i
        obtain ⟨g, o, m⟩ := C.glT h2
        obtain ⟨d1, d2, d3⟩ := okName_dbg o
        obtain ⟨g', o'⟩ := C.gl h3
        obtain ⟨C', hC', ec'⟩ := C.ex.cls k _ (of_decide_eq_true h4)
        refine ⟨fun pins s σ H Q I hh => ?_⟩
        obtain ⟨F, G, s', c, p, r, hK, hC, ho, hd, hr, q⟩ := hh
        subst hd
        obtain ⟨hc, _⟩ := C.ex.lt c k r hr
        obtain ⟨C1, hC1, ec1⟩ := C.ex.cls c _ (List.getElem?_eq_getElem hc)
        have hcls : cls = .ref C1 := by
          cases ho.e with
          | non q1 q2 => rw [hC, hC1] at q1; cases q1; rfl
        have hz := C.hz
        subst hcls
        obtain ⟨k1, k2⟩ := C.ex.kit c k r C1 C' hr hC1 hC'
        exact (pe_callB (call_isE (X := X) (a := a) (oe := oe) (pn := pn) ec1.ec hz C.hf) g m b0_isinstance (pa_cons (C.name h5) (pa_cons (pe_glob g' ec'.g (v := .ref C') rfl (okName_dbg o').1) pa_nil)) d3 d1).run pins s σ H Q I ⟨_, (ho.nm i rfl).1, _, _, _, rfl, fun u ru => ru, k2, q⟩
      · cases h5
    · cases h
  | .isv, e, h => by
    unfold chkBE at h
    split at h
    · rename_i f _ x _ t _ _ _
      obtain ⟨h, h5⟩ := and2 h
      obtain ⟨h, h4⟩ := and2 h
      obtain ⟨h, h3⟩ := and2 h
      obtain ⟨h1, h2⟩ := and2 h
      have e1 := of_decide_eq_true h1
      subst e1
      have e3 := of_decide_eq_true h3
      subst e3
      split at h5
      · rename_i i
        obtain ⟨g, o, m⟩ := C.glT h2
        obtain ⟨d1, d2, d3⟩ := okName_dbg o
        obtain ⟨g', o', m'⟩ := C.glT h4
        refine ⟨fun pins s σ H Q I hh => ?_⟩
        obtain ⟨F, G, s', c, p, r, hK, hC, ho, hd, hr, q⟩ := hh
        subst hd
        replace hr : (sub c c).map (fun _ => true) = some r := hr
        cases hq : sub c c with
        | none => rw [hq] at hr; cases hr
        | some b0 =>
          rw [hq] at hr
          cases hr
          obtain ⟨hc, _⟩ := C.ex.lt c c b0 hq
          obtain ⟨C1, hC1, ec1⟩ := C.ex.cls c _ (List.getElem?_eq_getElem hc)
          have hcls : cls = .ref C1 := by
            cases ho.e with
            | non q1 q2 => rw [hC, hC1] at q1; cases q1; rfl
          have hz := C.hz
          subst hcls
          exact (pe_callB (call_isE (X := X) (a := a) (oe := oe) (pn := pn) ec1.ec hz C.hf) g m b0_isinstance (pa_cons (C.name h5) (pa_cons (pe_bltn (v := .ty "ValueError") g' m' My.b0_ValueError rfl (okName_dbg o').2.2 (okName_dbg o').1) pa_nil)) d3 d1).run pins s σ H Q I ⟨_, (ho.nm i rfl).1, _, _, _, rfl, fun u ru => ru, ec1.ve, q⟩
      · cases h5
    · cases h
  | .and p q, e, h => by
    have fin : ∀ {v w : Expr} {rest : List Expr} {pos : Pos}, PE (X.suite a ((a, oe) :: pn)) v (denBV X.K CA sub a cls d ei p) → PE (X.suite a ((a, oe) :: pn)) (.BoolOp .And (w :: rest) pos) (denBV X.K CA sub a cls d ei q) → PE (X.suite a ((a, oe) :: pn)) (.BoolOp .And (v :: w :: rest) pos) (denBV X.K CA sub a cls d ei (.and p q)) := fun h1 h2 => by
      refine (pe_and h1 h2).imp fun σ H Q ⟨F, G, s', c, pl, r, hK, hC, ho, hd, hr, q'⟩ => ?_
      replace hr : (match evBE sub c p with | some true => evBE sub c q | o => o) = some r := hr
      cases hp : evBE sub c p with
      | none => rw [hp] at hr; cases hr
      | some b1 =>
        rw [hp] at hr
        refine ⟨F, G, s', c, pl, b1, hK, hC, ho, hd, hp, b1, rfl, ?_⟩
        cases b1 with
        | true => rw [if_pos rfl]; exact ⟨F, G, s', c, pl, r, hK, hC, ho, hd, hr, q'⟩
        | false => rw [if_neg Bool.false_ne_true]; cases hr; exact q'
    unfold chkBE at h
    split at h
    · obtain ⟨h1, h2⟩ := and2 h
      exact fin (s_be C p _ h1) (pe_one (s_be C q _ h2))
    · obtain ⟨h1, h2⟩ := and2 h
      exact fin (s_be C p _ h1) (s_be C q _ h2)
    · cases h
  | .or p q, e, h => by
    have fin : ∀ {v w : Expr} {rest : List Expr} {pos : Pos}, PE (X.suite a ((a, oe) :: pn)) v (denBV X.K CA sub a cls d ei p) → PE (X.suite a ((a, oe) :: pn)) (.BoolOp .Or (w :: rest) pos) (denBV X.K CA sub a cls d ei q) → PE (X.suite a ((a, oe) :: pn)) (.BoolOp .Or (v :: w :: rest) pos) (denBV X.K CA sub a cls d ei (.or p q)) := fun h1 h2 => by
      refine (pe_or h1 h2).imp fun σ H Q ⟨F, G, s', c, pl, r, hK, hC, ho, hd, hr, q'⟩ => ?_
      replace hr : (match evBE sub c p with | some false => evBE sub c q | o => o) = some r := hr
      cases hp : evBE sub c p with
      | none => rw [hp] at hr; cases hr
      | some b1 =>
        rw [hp] at hr
        refine ⟨F, G, s', c, pl, b1, hK, hC, ho, hd, hp, b1, rfl, ?_⟩
        cases b1 with
        | true => rw [if_pos rfl]; cases hr; exact q'
        | false => rw [if_neg Bool.false_ne_true]; exact ⟨F, G, s', c, pl, r, hK, hC, ho, hd, hr, q'⟩
    unfold chkBE at h
    split at h
    · obtain ⟨h1, h2⟩ := and2 h
      exact fin (s_be C p _ h1) (pe_one (s_be C q _ h2))
    · obtain ⟨h1, h2⟩ := and2 h
      exact fin (s_be C p _ h1) (s_be C q _ h2)
    · cases h
  | .not p, e, h => by
    unfold chkBE at h
    split at h
    · refine (pe_not (s_be C p _ h)).imp fun σ H Q ⟨F, G, s', c, pl, r, hK, hC, ho, hd, hr, q'⟩ => ?_
      replace hr : (evBE sub c p).map (!·) = some r := hr
      cases hp : evBE sub c p with
      | none => rw [hp] at hr; cases hr
      | some b1 =>
        rw [hp] at hr
        cases hr
        exact ⟨F, G, s', c, pl, b1, hK, hC, ho, hd, hp, b1, rfl, q'⟩
    · cases h
theorem bt_val (b : BE) {e : Expr} (pt : plainT e = true) (h : PE (X.suite a ((a, oe) :: pn)) e (denBV X.K CA sub a cls d ei b)) : PT (X.suite a ((a, oe) :: pn)) e (denB X.K CA sub a cls d ei b) :=
  (pt_val h (true_of pt _)).imp fun σ H Q ⟨F, G, s', c, pl, r, hK, hC, ho, hd, hr, q'⟩ => ⟨F, G, s', c, pl, r, hK, hC, ho, hd, hr, r, rfl, q'⟩
theorem s_bt (C : CtxH X a oe cls d pn Tb N sc sub CA) : ∀ (b : BE) (e : Expr), chkBT Tb N ei sc b e = true → PT (X.suite a ((a, oe) :: pn)) e (denB X.K CA sub a cls d ei b) ∧ ∀ op vs pos, e = .BoolOp op vs pos → PW (X.suite a ((a, oe) :: pn)) e (denB X.K CA sub a cls d ei b)
  | .isc k, e, h => by
    unfold chkBT at h
    obtain ⟨h1, h2⟩ := and2 h
    exact ⟨bt_val _ h1 (s_be C _ e h2), fun op vs pos z => by subst z; cases h1⟩
  | .isv, e, h => by
    unfold chkBT at h
    obtain ⟨h1, h2⟩ := and2 h
    exact ⟨bt_val _ h1 (s_be C _ e h2), fun op vs pos z => by subst z; cases h1⟩
  | .and p q, e, h => by
    have fin : ∀ {v w : Expr} {rest : List Expr} {pos : Pos}, PT (X.suite a ((a, oe) :: pn)) v (denB X.K CA sub a cls d ei p) → PW (X.suite a ((a, oe) :: pn)) (.BoolOp .And (w :: rest) pos) (denB X.K CA sub a cls d ei q) → PW (X.suite a ((a, oe) :: pn)) (.BoolOp .And (v :: w :: rest) pos) (denB X.K CA sub a cls d ei (.and p q)) := fun h1 h2 => by
      refine (pw_and h1 h2).imp fun σ H Q ⟨F, G, s', c, pl, r, hK, hC, ho, hd, hr, q'⟩ => ?_
      replace hr : (match evBE sub c p with | some true => evBE sub c q | o => o) = some r := hr
      cases hp : evBE sub c p with
      | none => rw [hp] at hr; cases hr
      | some b1 =>
        rw [hp] at hr
        refine ⟨F, G, s', c, pl, b1, hK, hC, ho, hd, hp, ?_⟩
        cases b1 with
        | true => rw [if_pos rfl]; exact ⟨F, G, s', c, pl, r, hK, hC, ho, hd, hr, q'⟩
        | false => rw [if_neg Bool.false_ne_true]; cases hr; exact q'
    unfold chkBT at h
    split at h
    · obtain ⟨h1, h2⟩ := and2 h
      have := fin (s_bt C p _ h1).1 (pw_and1 (pos := by assumption) (s_bt C q _ h2).1)
      exact ⟨this.pt, fun _ _ _ _ => this⟩
    · obtain ⟨h1, h2⟩ := and2 h
      have := fin (s_bt C p _ h1).1 ((s_bt C q _ h2).2 _ _ _ rfl)
      exact ⟨this.pt, fun _ _ _ _ => this⟩
    · cases h
  | .or p q, e, h => by
    have fin : ∀ {v w : Expr} {rest : List Expr} {pos : Pos}, PT (X.suite a ((a, oe) :: pn)) v (denB X.K CA sub a cls d ei p) → PW (X.suite a ((a, oe) :: pn)) (.BoolOp .Or (w :: rest) pos) (denB X.K CA sub a cls d ei q) → PW (X.suite a ((a, oe) :: pn)) (.BoolOp .Or (v :: w :: rest) pos) (denB X.K CA sub a cls d ei (.or p q)) := fun h1 h2 => by
      refine (pw_or h1 h2).imp fun σ H Q ⟨F, G, s', c, pl, r, hK, hC, ho, hd, hr, q'⟩ => ?_
      replace hr : (match evBE sub c p with | some false => evBE sub c q | o => o) = some r := hr
      cases hp : evBE sub c p with
      | none => rw [hp] at hr; cases hr
      | some b1 =>
        rw [hp] at hr
        refine ⟨F, G, s', c, pl, b1, hK, hC, ho, hd, hp, ?_⟩
        cases b1 with
        | true => rw [if_pos rfl]; cases hr; exact q'
        | false => rw [if_neg Bool.false_ne_true]; exact ⟨F, G, s', c, pl, r, hK, hC, ho, hd, hr, q'⟩
    unfold chkBT at h
    split at h
    · obtain ⟨h1, h2⟩ := and2 h
      have := fin (s_bt C p _ h1).1 (pw_or1 (pos := by assumption) (s_bt C q _ h2).1)
      exact ⟨this.pt, fun _ _ _ _ => this⟩
    · obtain ⟨h1, h2⟩ := and2 h
      have := fin (s_bt C p _ h1).1 ((s_bt C q _ h2).2 _ _ _ rfl)
      exact ⟨this.pt, fun _ _ _ _ => this⟩
    · cases h
  | .not p, e, h => by
    unfold chkBT at h
    split at h
    · refine ⟨(pt_not (s_bt C p _ h).1).imp fun σ H Q ⟨F, G, s', c, pl, r, hK, hC, ho, hd, hr, q'⟩ => ?_, fun op vs pos z => by cases z⟩
      replace hr : (evBE sub c p).map (!·) = some r := hr
      cases hp : evBE sub c p with
      | none => rw [hp] at hr; cases hr
      | some b1 =>
        rw [hp] at hr
        cases hr
        exact ⟨F, G, s', c, pl, b1, hK, hC, ho, hd, hp, q'⟩
    · cases h
end
end Den
set_option Elab.async false
set_option linter.all false
set_option maxRecDepth 100000
set_option autoImplicit false
set_option maxHeartbeats 4000000
namespace Den
open PySem PySem.Spec PyProof.Rows L2
section
variable {X : Cx} {a : Addr} {oe : Obj} {cls : Value} {d : Option Addr} {pn : List (Addr × Obj)} {Tb : Tab} {N : List Str} {sc : Scope} {sub : Nat → Nat → Option Bool} {CA : Nat → Option Addr} {ei : Option Nat}
def denV (K : PySem.W.Frag) (CA : Nat → Option Addr) (sub : Nat → Nat → Option Bool) (a : Addr) (cls : Value) (d : Option Addr) (ei : Option Nat) (x : HX) : TE := fun σ H Q =>
  ∃ F G s c p d' s', F.K = K ∧ F.CA = CA ∧ HOk a cls d ei c p F G H σ s ∧ evHX sub c p x s = some (d', s') ∧ ∀ v G' H', Ex G G' → HOk a cls d ei c p F G' H' σ s' → Rep F.K F.CA G' v d' → Q v H'
def denVs (K : PySem.W.Frag) (CA : Nat → Option Addr) (sub : Nat → Nat → Option Bool) (a : Addr) (cls : Value) (d : Option Addr) (ei : Option Nat) (xs : List HX) : TA := fun σ H Q =>
  ∃ F G s c p ds s', F.K = K ∧ F.CA = CA ∧ HOk a cls d ei c p F G H σ s ∧ evHXs sub c p xs s = some (ds, s') ∧ ∀ vs G' H', Ex G G' → HOk a cls d ei c p F G' H' σ s' → Reps F.K F.CA G' vs ds → Q vs H'
theorem exc_none {F : Fr} {G H : Hp} {c : Nat} {p : List (Str × D)} (h : ExcOk F G H c p cls d) (e : p.isEmpty = true) : d = none := by
  cases h with
  | non _ _ => rfl
  | dict _ _ _ _ q => cases p with
    | nil => exact absurd rfl q
    | cons _ _ => cases e
theorem move_none {s s' : S} {i j : Nat} {x : D} (h : s.move i = some (x, s')) (e : s.slot j = none) : s'.slot j = none := by
  unfold S.move at h
  split at h
  · cases h; exact e
  · rename_i d' hs
    cases h
    have hi := slot_env hs
    by_cases hj : i = j
    · subst hj; rw [hs] at e; cases e
    · unfold S.slot at e ⊢
      show ((s.env.set i (some (.shr x)))[j]?).bind id = none
      rw [List.getElem?_set_ne hj]
      exact e
  · cases h
theorem lit_pe {v : V} {x : D} {e : Expr} (hd : x.v = some v) (he : PE (X.suite a ((a, oe) :: pn)) e (tC v)) : PE (X.suite a ((a, oe) :: pn)) e (denV X.K CA sub a cls d ei (.lit x)) :=
  he.imp fun σ H Q ⟨F, G, s, c, p, d', s', hK, hC, ho, hv, q⟩ => by
    replace hv : (if x.flat = true then some (x, s) else none) = some (d', s') := hv
    split at hv
    · cases hv; exact q v G H (Evl.Ex.refl _) ho (Rep.ofV hd)
    · cases hv
mutual
theorem s_hx (C : CtxH X a oe cls d pn Tb N sc sub CA) : ∀ (x : HX) (e : Expr), chkHX Tb N ei sc x e = true → PE (X.suite a ((a, oe) :: pn)) e (denV X.K CA sub a cls d ei x)
  | .lit x, e, h => by
    unfold chkHX at h
    split at h
    · have := of_decide_eq_true h; subst this; exact lit_pe rfl pe_int
    · have := of_decide_eq_true h; subst this; exact lit_pe rfl pe_str
    · have := of_decide_eq_true h; subst this; exact lit_pe rfl pe_bl
    · exact lit_pe rfl pe_non
    · cases h
  | .var i, e, h => by
    unfold chkHX at h
    split at h
    · refine (C.name h).imp fun σ H Q ⟨F, G, s, c, p, d', s', hK, hC, ho, hv, q⟩ => ?_
      replace hv : s.move i = some (d', s') := hv
      obtain ⟨G', v, x1, R1, e1, r1⟩ := ho.R.move hv
      exact ⟨v, e1, q v G' H x1 ⟨R1, ho.e.mono x1, fun j hj => ⟨(ho.nm j hj).1, move_none hv (ho.nm j hj).2⟩⟩ r1⟩
    · cases h
  | .be b, e, h => by
    unfold chkHX at h
    refine (s_be C b e h).imp fun σ H Q ⟨F, G, s, c, p, d', s', hK, hC, ho, hv, q⟩ => ?_
    replace hv : (if p.isEmpty = true then (evBE sub c b).map fun b => (D.bl b, s) else none) = some (d', s') := hv
    split at hv
    · rename_i hp
      cases hb : evBE sub c b with
      | none => rw [hb] at hv; cases hv
      | some r =>
        rw [hb] at hv
        cases hv
        exact ⟨F, G, s, c, p, r, hK, hC, ho, exc_none ho.e hp, hb, q _ G H (Evl.Ex.refl _) ho (.bl r)⟩
    · cases hv
  | .fld f, e, h => by unfold chkHX at h; cases h
  | .inc i k, e, h => by
    unfold chkHX at h
    split at h
    · obtain ⟨h1, h2⟩ := and2 h
      have := of_decide_eq_true h2
      subst this
      refine (pe_add (C.name h1) pe_int).imp fun σ H Q ⟨F, G, s, c, p, d', s', hK, hC, ho, hv, q⟩ => ?_
      replace hv : (match s.look (.at i) with | some (.int j) => some (D.int (j + _), s) | _ => none) = some (d', s') := hv
      split at hv
      · rename_i j hj
        cases hv
        have hj' : (s.slot i).bind s.data = some (.int j) := hj
        cases hs : s.slot i with
        | none => rw [hs] at hj'; cases hj'
        | some y =>
          obtain ⟨v, e1, _⟩ := ho.R.slots i y (slot_env hs)
          have := (ho.R.look (show PVOk F G σ v (.at i) from e1) hj).int
          subst this
          exact ⟨_, e1, _, _, rfl, rfl, q _ G H (Evl.Ex.refl _) ho (.int _)⟩
      · cases hv
    · cases h
  | .tup xs, e, h => by
    unfold chkHX at h
    split at h
    · refine (pe_tup (s_hxs C xs _ h)).imp fun σ H Q ⟨F, G, s, c, p, d', s', hK, hC, ho, hv, q⟩ => ?_
      replace hv : (match evHXs sub c p xs s with | some (ds, s1) => if ds.length ≤ lim then some (D.tup ds, s1) else none | none => none) = some (d', s') := hv
      cases hx : evHXs sub c p xs s with
      | none => rw [hx] at hv; cases hv
      | some r =>
        obtain ⟨ds, s1⟩ := r
        rw [hx] at hv
        replace hv : (if ds.length ≤ lim then some (D.tup ds, s1) else none) = some (d', s') := hv
        split at hv
        · rename_i hz
          cases hv
          refine ⟨F, G, s, c, p, ds, _, hK, hC, ho, hx, fun vs G' H' x1 ho1 rs => ⟨by rw [rs.length]; exact sz hz, fun p hp => ?_⟩⟩
          have g := Grow.newG (o := .tup vs) ho1.R.gh hp
          exact q _ _ _ (x1.trans g.g) ⟨ho1.R.grow g, ho1.e.mono g.g, ho1.nm⟩ (.tup (Evl.st_of upd_same) (rs.mono g.g))
        · cases hv
    · cases h
theorem s_hxs (C : CtxH X a oe cls d pn Tb N sc sub CA) : ∀ (xs : List HX) (es : List Expr), chkHXs Tb N ei sc xs es = true → PA (X.suite a ((a, oe) :: pn)) es (denVs X.K CA sub a cls d ei xs)
  | [], es, h => by
    unfold chkHXs at h
    split at h
    · refine pa_nil.imp fun σ H Q ⟨F, G, s, c, p, ds, s', hK, hC, ho, hv, q⟩ => ?_
      have hv : some (([] : List D), s) = some (ds, s') := hv
      cases hv
      exact q [] G H (Evl.Ex.refl _) ho .nil
    · cases h
  | x :: xs, es, h => by
    unfold chkHXs at h
    split at h
    · rename_i e es
      obtain ⟨h, h3⟩ := and2 h
      obtain ⟨h1, h2⟩ := and2 h
      refine (pa_cons (s_hx C x e h2) (s_hxs C xs es h3) (star_of h1 _ _)).imp fun σ H Q ⟨F, G, s, c, p, ds, s', hK, hC, ho, hv, q⟩ => ?_
      replace hv : (match evHX sub c p x s with | some (d, s1) => (match evHXs sub c p xs s1 with | some (ds, s2) => some (d :: ds, s2) | none => none) | none => none) = some (ds, s') := hv
      cases hx : evHX sub c p x s with
      | none => rw [hx] at hv; cases hv
      | some r =>
        obtain ⟨d1, s1⟩ := r
        rw [hx] at hv
        replace hv : (match evHXs sub c p xs s1 with | some (ds, s2) => some (d1 :: ds, s2) | none => none) = some (ds, s') := hv
        cases hy : evHXs sub c p xs s1 with
        | none => rw [hy] at hv; cases hv
        | some r =>
          obtain ⟨ds2, s2⟩ := r
          rw [hy] at hv
          cases hv
          exact ⟨F, G, s, c, p, d1, s1, hK, hC, ho, hx, fun v G1 H1 x1 ho1 r1 => ⟨F, G1, s1, c, p, ds2, _, hK, hC, ho1, hy, fun vs G2 H2 x2 ho2 rs => q _ G2 H2 (x1.trans x2) ho2 (.cons (r1.mono x2) rs)⟩⟩
    · cases h
end
/-! statements -/
def PostH (a : Addr) (cls : Value) (d : Option Addr) (ei : Option Nat) (c : Nat) (p : List (Str × D)) (F : Fr) (G0 : Hp) (D : Ends) : O → Prop
  | .nx s => ∀ σ G H, Ex G0 G → HOk a cls d ei c p F G H σ s → D.nx σ H
  | .bk s => ∀ σ G H, Ex G0 G → HOk a cls d ei c p F G H σ s → D.bk σ H
  | .ct s => ∀ σ G H, Ex G0 G → HOk a cls d ei c p F G H σ s → D.ct σ H
  | .rt x s => ∀ v σ G H, Ex G0 G → RS F G H σ s → Res F G H σ s v x → D.rt v H
  | .ex _ _ _ => True
  | .bad => False
def denH (K : PySem.W.Frag) (CA : Nat → Option Addr) (a : Addr) (cls : Value) (d : Option Addr) (ei : Option Nat) (m : Nat → List (Str × D) → S → O) : TS := fun D σ H =>
  ∃ F G s c p, F.K = K ∧ F.CA = CA ∧ HOk a cls d ei c p F G H σ s ∧ PostH a cls d ei c p F G D (m c p s)
theorem PostH.mono {c : Nat} {p : List (Str × D)} {F : Fr} {G G' : Hp} {D : Ends} {o : O} (x : Ex G G') (h : PostH a cls d ei c p F G D o) : PostH a cls d ei c p F G' D o := by
  cases o with
  | nx s => exact fun σ G2 H e => h σ G2 H (x.trans e)
  | bk s => exact fun σ G2 H e => h σ G2 H (x.trans e)
  | ct s => exact fun σ G2 H e => h σ G2 H (x.trans e)
  | rt y s => exact fun v σ G2 H e => h v σ G2 H (x.trans e)
  | ex _ _ _ => exact h
  | bad => exact h
theorem loc_of {Y : Cx} {N : List Str} {sc : Scope} {i : Nat} {y : Str} (hN : Y.N = N) (hsc : Y.env.scope = sc) (hfn : ∀ x, Y.fn x = true) (h : locB N sc i y = true) : Y.N[i]? = some y ∧ Loc Y.env.scope y ∧ (Y.fn y = true ∨ Y.env.scope.names.lookup y = some .local) := by
  unfold locB at h
  rw [Bool.and_eq_true, Bool.and_eq_true, Bool.or_eq_true, decide_eq_true_eq, decide_eq_true_eq, decide_eq_true_eq] at h
  refine ⟨by rw [hN]; exact h.1.2, ?_, .inl (hfn y)⟩
  rw [hsc]
  exact h.2
theorem sw_no {e : Expr} (h : noComp e = true) (t : Option Expr) (l : Nat) (env : PySem.Env) : swapsWith e t l env = pure false := by
  cases e <;> first | rfl | (exact Bool.noConfusion h)
mutual
theorem s_h (C : CtxH X a oe cls d pn Tb N sc sub CA) : ∀ (h : HC) (st : Stmt), chkH Tb N ei sc h st = true → PS (X.suite a ((a, oe) :: pn)) st (denH X.K CA a cls d ei fun c p => exH sub c p h)
  | .pass, st, h => by
    unfold chkH at h
    split at h
    · exact ps_pass.imp fun D σ H ⟨F, G, s, c, p, hK, hC, ho, P⟩ => P σ G H (Evl.Ex.refl _) ho
    · cases h
  | .brk, st, h => by
    unfold chkH at h
    split at h
    · exact ps_break.imp fun D σ H ⟨F, G, s, c, p, hK, hC, ho, P⟩ => P σ G H (Evl.Ex.refl _) ho
    · cases h
  | .cont, st, h => by
    unfold chkH at h
    split at h
    · exact ps_continue.imp fun D σ H ⟨F, G, s, c, p, hK, hC, ho, P⟩ => P σ G H (Evl.Ex.refl _) ho
    · cases h
  | .retn, st, h => by
    unfold chkH at h
    split at h
    · exact ps_retN.imp fun D σ H ⟨F, G, s, c, p, hK, hC, ho, P⟩ => P _ σ G H (Evl.Ex.refl _) ho.R (Res.shr .non)
    · cases h
  | .ret x, st, h => by
    unfold chkH at h
    split at h
    · refine (ps_ret (s_hx C x _ h)).imp fun D σ H ⟨F, G, s, c, p, hK, hC, ho, P⟩ => ?_
      have P : PostH a cls d ei c p F G D (match evHX sub c p x s with | some (d, s1) => .rt (.shr d) s1 | none => .bad) := P
      cases hx : evHX sub c p x s with
      | none => rw [hx] at P; exact P.elim
      | some r =>
        obtain ⟨d1, s1⟩ := r
        rw [hx] at P
        exact ⟨F, G, s, c, p, d1, s1, hK, hC, ho, hx, fun v G' H' x1 ho1 r1 => P v σ G' H' x1 ho1.R (Res.shr r1)⟩
    · cases h
  | .set i x, st, h => by
    unfold chkH at h
    split at h
    · obtain ⟨h, h4⟩ := and2 h
      obtain ⟨h, h3⟩ := and2 h
      obtain ⟨h1, h2⟩ := and2 h
      obtain ⟨l1, l2, l3⟩ := loc_of (Y := X.suite a ((a, oe) :: pn)) C.hN C.hsc C.hfn h1
      refine (ps_set (i := i) (X := X.suite a ((a, oe) :: pn)) (by show X.N.Nodup; rw [C.hN]; exact C.nd) l1 l2 (s_hx C x _ h4) (sw_no h3 _ _ _) l3).imp fun D σ H ⟨F, G, s, c, p, hK, hC, ho, P⟩ => ?_
      have P : PostH a cls d ei c p F G D (match evHX sub c p x s with | some (d, s1) => if i < s1.env.length then .nx (s1.put i (.shr d)) else .bad | none => .bad) := P
      cases hx : evHX sub c p x s with
      | none => rw [hx] at P; exact P.elim
      | some r =>
        obtain ⟨d1, s1⟩ := r
        rw [hx] at P
        have P : PostH a cls d ei c p F G D (if i < s1.env.length then .nx (s1.put i (.shr d1)) else .bad) := P
        split at P
        · refine ⟨F, G, s, c, p, d1, s1, hK, hC, ho, hx, fun v G' H' x1 ho1 r1 => P _ G' H' x1 ⟨ho1.R.put (Res.shr r1), ho1.e, fun j hj => ?_⟩⟩
          have hne : i ≠ j := fun z => of_decide_eq_true h2 (by rw [z]; exact hj)
          refine ⟨by rw [List.getElem?_set_ne hne]; exact (ho1.nm j hj).1, ?_⟩
          unfold S.slot
          show ((s1.env.set i (some (.shr d1)))[j]?).bind id = none
          rw [List.getElem?_set_ne hne]
          exact (ho1.nm j hj).2
        · exact P.elim
    · cases h
  | .iff b p q, st, h => by
    unfold chkH at h
    split at h
    · obtain ⟨h, h3⟩ := and2 h
      obtain ⟨h1, h2⟩ := and2 h
      refine (ps_if (s_bt C b _ h1).1 (s_hs C p _ h2) (s_hs C q _ h3)).imp fun D σ H ⟨F, G, s, c, pl, hK, hC, ho, P⟩ => ?_
      have P : PostH a cls d ei c pl F G D (if pl.isEmpty = true then match evBE sub c b with
        | some true => exHs sub c pl p s
        | some false => exHs sub c pl q s
        | none => .bad
        else .bad) := P
      split at P
      · rename_i hp
        cases hb : evBE sub c b with
        | none => rw [hb] at P; exact P.elim
        | some r =>
          rw [hb] at P
          refine ⟨F, G, s, c, pl, r, hK, hC, ho, exc_none ho.e hp, hb, ?_⟩
          cases r with
          | true => rw [if_pos rfl]; exact ⟨F, G, s, c, pl, hK, hC, ho, P⟩
          | false => rw [if_neg Bool.false_ne_true]; exact ⟨F, G, s, c, pl, hK, hC, ho, P⟩
      · exact P.elim
    · cases h
theorem s_hs (C : CtxH X a oe cls d pn Tb N sc sub CA) : ∀ (hs : List HC) (sts : List Stmt), chkHs Tb N ei sc hs sts = true → PSs (X.suite a ((a, oe) :: pn)) sts (denH X.K CA a cls d ei fun c p => exHs sub c p hs)
  | [], sts, h => by
    unfold chkHs at h
    split at h
    · exact pss_nil.imp fun D σ H ⟨F, G, s, c, p, hK, hC, ho, P⟩ => P σ G H (Evl.Ex.refl _) ho
    · cases h
  | x :: xs, sts, h => by
    unfold chkHs at h
    split at h
    · obtain ⟨h1, h2⟩ := and2 h
      refine (pss_cons (s_h C x _ h1) (s_hs C xs _ h2)).imp fun D σ H ⟨F, G, s, c, p, hK, hC, ho, P⟩ => ⟨F, G, s, c, p, hK, hC, ho, ?_⟩
      have P : PostH a cls d ei c p F G D ((exH sub c p x s).bind fun s1 => exHs sub c p xs s1) := P
      show PostH a cls d ei c p F G _ (exH sub c p x s)
      cases hx : exH sub c p x s with
      | nx s1 => rw [hx] at P; exact fun σ1 G1 H1 x1 ho1 => ⟨F, G1, s1, c, p, hK, hC, ho1, P.mono x1⟩
      | rt y s1 => rw [hx] at P; exact P
      | bk s1 => rw [hx] at P; exact P
      | ct s1 => rw [hx] at P; exact P
      | ex _ _ _ => rw [hx] at P; exact P
      | bad => rw [hx] at P; exact P
    · cases h
end
end
end Den
set_option Elab.async false
set_option linter.all false
set_option maxRecDepth 100000
set_option autoImplicit false
set_option maxHeartbeats 4000000
namespace Den
open PySem PySem.Spec PyProof.Rows L2
/-! ### statements: the check -/
section
variable (Tb : Tab) (N : List Str)
def chkSetC (sc : Scope) (y : Str) (py : Pos) : Den.X → Expr → Bool
  | .comp _ _ _ _ _, .ListComp _ [⟨_, _, _, 0⟩] scope pos => decide (sc.names.lookup y = some .local) && (py.line == pos.line) && !(scope.names.any fun (n, k) => n == y && (k == .local || k == .cell))
  | .comp2 _ _ _ _ _ _ _ _ _, .ListComp _ [⟨_, _, _, 0⟩, ⟨_, _, _, 0⟩] scope pos => decide (sc.names.lookup y = some .local) && (py.line == pos.line) && !(scope.names.any fun (n, k) => n == y && (k == .local || k == .cell))
  | _, _ => false
mutual
def chkC (sc : Scope) : C → Stmt → Bool
  | .pass, s => match s with | .Pass _ => true | _ => false
  | .brk, s => match s with | .Break _ => true | _ => false
  | .cont, s => match s with | .Continue _ => true | _ => false
  | .expr e, s => match s with | .Expr x _ => noComp x && chkX Tb N sc e x | _ => false
  | .set i e, s => match s with
    | .Assign [.Name y py] x _ => locB N sc i y && (noComp x || chkSetC sc y py e x || decide (sc.names.lookup y = some .cell)) && chkX Tb N sc e x
    | _ => false
  | .setf i e, s => match s with
    | .Assign [.Name y py] x _ => locB N sc i y && (noComp x || chkSetC sc y py e x || decide (sc.names.lookup y = some .cell)) && chkX Tb N sc e x
    | _ => false
  | .asg t e, s => match s with
    | .Assign [.Tuple es k tp] x _ => !isTup x && noComp x && chkTg N sc (fun _ => true) t (.Tuple es k tp) && chkX Tb N sc e x
    | _ => false
  | .retn, s => match s with | .Return none _ => true | _ => false
  | .ret e, s => match s with | .Return (some x) _ => chkX Tb N sc e x | _ => false
  | .retv i, s => match s with | .Return (some (.Name x _)) _ => nameB N sc i x | _ => false
  | .setix i k e, s => match s with
    | .Assign [.Subscript (.Name x _) ix _] v _ => nameB N sc i x && plain ix && noComp v && chkX Tb N sc k ix && chkX Tb N sc e v
    | _ => false
  | .setfld c i f e, s => match s with
    | .Assign [.Attribute (.Name x _) g _] v _ => nameB N sc i x && decide (f = g) && noComp v && fldOk Tb [c] f && chkX Tb N sc e v
    | _ => false
  | .iff t p q _, s => match s with
    | .If c p' q' _ => chkT Tb N sc t c && chkCs sc p p' && chkCs sc q q'
    | _ => false
  | .for tg it b _, s => match s with
    | .For tge ite b' [] _ => plain ite && chkIt Tb N sc it ite tge && chkTg N sc (fun _ => true) tg tge && chkCs sc b b'
    | _ => false
  | .while t b _, s => match s with
    | .While c b' [] _ => chkT Tb N sc t c && chkCs sc b b'
    | _ => false
  | .raise c, s => match s with
    | .Raise (some (.Call (.Name x _) [.Constant (.str _) _ _] [] _)) none _ => glB sc x && decide (Tb.exs[c]? = some x)
    | _ => false
  | .try1 b c i h _, s => match i, s with
    | none, .Try b' [.ExceptHandler (some (.Name x _)) none (h0 :: hs) _] [] [] _ => glB sc x && decide (Tb.exs[c]? = some x) && chkCs sc b b' && chkHs Tb N none sc h (h0 :: hs)
    | some j, .Try b' [.ExceptHandler (some (.Name x _)) (some n) (h0 :: hs) _] [] [] _ => glB sc x && decide (Tb.exs[c]? = some x) && decide (N[j]? = some n) && decide (sc.names.lookup n = some .local) && chkCs sc b b' && chkHs Tb N (some j) sc h (h0 :: hs)
    | _, _ => false
def chkCs (sc : Scope) : List C → List Stmt → Bool
  | [], ss => match ss with | [] => true | _ => false
  | c :: cs, ss => match ss with
    | s :: ss => chkC sc c s && chkCs sc cs ss
    | [] => false
end
end
/-! ### the context of a def's body -/
structure CtxS (X : Cx) (Tb : Tab) (N : List Str) (sc : Scope) (n : Nat) (E : Env) (CA : Nat → Option Addr) (W : WX) : Prop where
  c : Ctx X Tb N sc (fun _ => true) n E CA W
  kind : sc.kind = .function
  hs : X.stack = X.env :: X.outer
  hf : X.env.frame = some X.env.locals
  po : PassesOwn (model X.prog X.w) X.A X.env X.xe
  ex : ExcTab X.K X.mg Tb E.sub CA
section
variable {F : Fr} {G G' H : Hp} {σ : L2.St} {W W' : WX} {D : Ends} {Q Q' : VK}
theorem PostS.mono {o : O} (x : Ex G G') (h : PostS W F G D o) : PostS W F G' D o := by
  cases o with
  | nx s => exact fun σ G2 H e => h σ G2 H (x.trans e)
  | bk s => exact fun σ G2 H e => h σ G2 H (x.trans e)
  | ct s => exact fun σ G2 H e => h σ G2 H (x.trans e)
  | rt y s => exact fun v σ G2 H e => h v σ G2 H (x.trans e)
  | ex c p s => exact fun σ G2 H cls d e => h σ G2 H cls d (x.trans e)
  | bad => exact h
theorem PostS.toE {m : Out SV} {f : SV → S → O} (h : PostS W F G D (m.to f)) : PostE F G σ W (fun v H' => ∃ x s1 G', Ex G G' ∧ RS F G' H' σ s1 ∧ Res F G' H' σ s1 v x ∧ PostS W F G' D (f x s1)) m := by
  cases m with
  | ok x s1 => exact fun v G' H' e R r => ⟨x, s1, G', e, R, r, PostS.mono e h⟩
  | ex c p s1 => exact fun G' H' cls d e R k => h σ G' H' cls d e R k
  | bad => exact h
theorem PostS.toP {m : Out PV} {f : PV → S → O} (h : PostS W F G D (m.to f)) : PostP F G σ W (fun v H' => ∃ x s1 G', Ex G G' ∧ RS F G' H' σ s1 ∧ PVOk F G' σ v x ∧ PostS W F G' D (f x s1)) m := by
  cases m with
  | ok x s1 => exact fun v G' H' e R r => ⟨x, s1, G', e, R, r, PostS.mono e h⟩
  | ex c p s1 => exact fun G' H' cls d e R k => h σ G' H' cls d e R k
  | bad => exact h
theorem PostS.toT {m : Out Bool} {f : Bool → S → O} (h : PostS W F G D (m.to f)) : PostT F G σ W (fun b H' => ∃ s1 G', Ex G G' ∧ RS F G' H' σ s1 ∧ PostS W F G' D (f b s1)) m := by
  cases m with
  | ok x s1 => exact fun G' H' e R => ⟨s1, G', e, R, PostS.mono e h⟩
  | ex c p s1 => exact fun G' H' cls d e R k => h σ G' H' cls d e R k
  | bad => exact h
theorem PostE.imp {m : Out SV} (h : PostE F G σ W Q m) (i : ∀ v H, Q v H → Q' v H) : PostE F G σ W Q' m := by
  cases m with
  | ok x s1 => exact fun v G' H' e R r => i _ _ (h v G' H' e R r)
  | ex c p s1 => exact h
  | bad => exact h
theorem PostP.imp {m : Out PV} (h : PostP F G σ W Q m) (i : ∀ v H, Q v H → Q' v H) : PostP F G σ W Q' m := by
  cases m with
  | ok x s1 => exact fun v G' H' e R r => i _ _ (h v G' H' e R r)
  | ex c p s1 => exact h
  | bad => exact h
theorem PostT.imp {m : Out Bool} {Q Q' : Bool → Hp → Prop} (h : PostT F G σ W Q m) (i : ∀ v H, Q v H → Q' v H) : PostT F G σ W Q' m := by
  cases m with
  | ok x s1 => exact fun G' H' e R => i _ _ (h G' H' e R)
  | ex c p s1 => exact h
  | bad => exact h
theorem PostS.wipe {o : O} {w : List Nat} (h : PostS W F G D (o.wipe w)) : PostS W F G D o := by
  cases o with
  | nx s => exact fun σ G2 H e R => h σ G2 H e (R.wipe w)
  | _ => exact h
/-- a slot of which nothing is said -/
theorem RS.setN {s : S} {j : Nat} {v : Option V} (R : RS F G H σ s) (h : ∀ x, s.env[j]? ≠ some (some x)) : RS F G H (σ.set j v) s where
  len := by simp [R.len]
  bh := R.bh
  nd := R.nd
  lent := R.lent
  keep := R.keep
  bg := R.bg
  gh := R.gh
  fresh := R.fresh
  blen := R.blen
  bors := R.bors
  slots := fun i x e => by
    have hne : j ≠ i := fun z => h x (by rw [z]; exact e)
    rw [List.getElem?_set_ne hne]
    exact R.slots i x e
  inj := fun i l x y e1 e2 m1 m2 q => by
    have h1 : j ≠ i := fun z => h x (by rw [z]; exact e1)
    have h2 : j ≠ l := fun z => h y (by rw [z]; exact e2)
    rw [List.getElem?_set_ne h1, List.getElem?_set_ne h2] at q
    exact R.inj i l x y e1 e2 m1 m2 q
theorem fix_look {s s1 : S} {p q : PV} (h : s.fix p = some (q, s1)) : (∀ x, s1.look x = s.look x) ∧ s1.look q = s.look p := by
  cases p with
  | val d => cases h; exact ⟨fun _ => rfl, rfl⟩
  | br k => cases h; exact ⟨fun _ => rfl, rfl⟩
  | «at» i =>
    unfold S.fix at h
    split at h
    · rename_i h1; cases h1
    · rename_i h1; cases h1
    · rename_i j0 h1
      cases h1
      split at h
      · rename_i d e
        cases h
        exact ⟨fun _ => rfl, by show some d = (s.slot i).bind s.data; rw [e]; rfl⟩
      · rename_i d e
        cases h
        have he := slot_env e
        have hlt : i < s.env.length := (List.getElem?_eq_some_iff.mp he).1
        refine ⟨fun x => ?_, by show some d = (s.slot i).bind s.data; rw [e]; rfl⟩
        cases x with
        | val d' => rfl
        | br k => rfl
        | «at» l =>
          show ((s.put i (.shr d)).slot l).bind (s.put i (.shr d)).data = (s.slot l).bind s.data
          by_cases hj : i = l
          · subst hj
            have : (s.put i (.shr d)).slot i = some (.shr d) := by simp [S.slot, S.put, hlt]
            rw [this, e]; rfl
          · have : (s.put i (.shr d)).slot l = s.slot l := by simp [S.slot, S.put, List.getElem?_set_ne hj]
            rw [this]
            cases s.slot l with
            | none => rfl
            | some y => cases y <;> rfl
      · rename_i k e
        cases h
        exact ⟨fun _ => rfl, by show s.bs[k]? = (s.slot i).bind s.data; rw [e]; rfl⟩
      · cases h
theorem looks_eq {s s1 : S} (h : ∀ x, s1.look x = s.look x) : ∀ ps, s1.looks ps = s.looks ps
  | [] => rfl
  | p :: ps => by
    show (s1.look p).bind (fun d => (s1.looks ps).map fun ds => d :: ds) = (s.look p).bind fun d => (s.looks ps).map fun ds => d :: ds
    rw [h p, looks_eq h ps]
theorem fixes_looks : ∀ {ps qs : List PV} {s s1 : S} {ds : List Den.D}, s.fixes ps = some (qs, s1) → s1.looks qs = some ds → s.looks ps = some ds := by
  have aux : ∀ {ps qs : List PV} {s s1 : S}, s.fixes ps = some (qs, s1) → (∀ x, s1.look x = s.look x) ∧ s1.looks qs = s.looks ps := by
    intro ps
    induction ps with
    | nil => intro qs s s1 h; cases h; exact ⟨fun _ => rfl, rfl⟩
    | cons p ps ih =>
      intro qs s s1 h
      unfold S.fixes at h
      split at h
      · cases h
      · rename_i q s2 e1
        split at h
        · cases h
        · rename_i qs' s3 e2
          cases h
          obtain ⟨a1, a2⟩ := fix_look e1
          obtain ⟨b1, b2⟩ := ih e2
          refine ⟨fun x => (b1 x).trans (a1 x), ?_⟩
          show (s1.look q).bind (fun d => (s1.looks qs').map fun ds => d :: ds) = (s.look p).bind fun d => (s.looks ps).map fun ds => d :: ds
          rw [b1 q, a2, b2, looks_eq a1 ps]
  intro ps qs s s1 ds h e
  rw [← (aux h).2]; exact e
theorem wiped_env {s : S} {j : Nat} (x : SV) : (s.wipe [j]).env[j]? ≠ some (some x) := fun e => by
  have := slot_wiped (s := s) (own := [j]) j List.mem_cons_self
  unfold S.slot at this
  rw [e] at this
  cases this
end
section
variable {X : Cx} {Tb : Tab} {N : List Str} {sc : Scope} {n : Nat} {E : Env} {CA : Nat → Option Addr} {W : WX}
theorem sw_cell {e : Expr} {y : Str} {py : Pos} {l : Nat} {env : PySem.Env} (h : env.scope.names.lookup y = some .cell) : swapsWith e (some (.Name y py)) l env = pure false := by
  have ky : (env.kindOf y == some .local) = false := by
    have : env.kindOf y = some .cell := h
    rw [this]; rfl
  cases e <;> first | rfl | (unfold swapsWith; simp only [ky]; simp)
/-- name = .. -/
theorem set_den {i : Nat} {e : Den.X} {D : Ends} {σ : L2.St} {H : Hp} (h : denS X.K CA W (exC E (.set i e)) D σ H) : denE X.K CA W (evX E e) σ H fun x H1 => D.nx (σ.set i (some x)) H1 := by
  obtain ⟨F, G, s, hK, hC, R, P⟩ := h
  have P : PostS W F G D ((evX E e s).to fun v s1 => if i < s1.env.length then .nx (s1.put i v) else .bad) := P
  refine ⟨F, G, s, hK, hC, R, (P.toE (σ := σ)).imp fun v H1 ⟨x, s1, G1, x1, R1, r1, P1⟩ => ?_⟩
  split at P1
  · exact P1 _ G1 H1 (Evl.Ex.refl _) (R1.put r1)
  · exact P1.elim
theorem setf_den {i : Nat} {e : Den.X} {D : Ends} {σ : L2.St} {H : Hp} (h : denS X.K CA W (exC E (.setf i e)) D σ H) : denE X.K CA W (evX E e) σ H fun x H1 => D.nx (σ.set i (some x)) H1 := by
  obtain ⟨F, G, s, hK, hC, R, P⟩ := h
  have P : PostS W F G D ((evX E e s).to fun v s1 => match v.d with
    | some d => if i < s1.env.length then .nx (s1.put i (.shr d)) else .bad
    | none => .bad) := P
  refine ⟨F, G, s, hK, hC, R, (P.toE (σ := σ)).imp fun v H1 ⟨x, s1, G1, x1, R1, r1, P1⟩ => ?_⟩
  cases hd : x.d with
  | none => rw [hd] at P1; exact P1.elim
  | some d =>
    rw [hd] at P1
    have P1 : PostS W F G1 D (if i < s1.env.length then .nx (s1.put i (.shr d)) else .bad) := P1
    split at P1
    · obtain ⟨G2, x2, R2, r2⟩ := r1.freeze R1 hd
      exact P1 _ G2 H1 x2 (R2.put (Res.shr r2))
    · exact P1.elim
theorem s_set (C : CtxS X Tb N sc n E CA W) {i : Nat} {e : Den.X} {st : Stmt} (h : chkC Tb N sc (.set i e) st = true) : PS X st (denS X.K CA W (exC E (.set i e))) := by
  unfold chkC at h
  split at h
  · rename_i y py x sp
    obtain ⟨h, hx⟩ := and2 h
    obtain ⟨h1, h2⟩ := and2 h
    obtain ⟨l1, l2, l3⟩ := loc_of C.c.hN C.c.hsc (fun x => C.c.hfn x) h1
    have hN : X.N.Nodup := by rw [C.c.hN]; exact C.c.nd
    rw [Bool.or_eq_true, Bool.or_eq_true] at h2
    rcases h2 with (h2 | h2) | h2
    rotate_left
    rotate_left
    · exact (ps_set (i := i) hN l1 l2 (sX e C.c _ hx) (sw_cell (by rw [C.c.hsc]; exact of_decide_eq_true h2)) l3).imp fun D σ H h => set_den h
    · exact (ps_set (i := i) hN l1 l2 (sX e C.c _ hx) (sw_no h2 _ _ _) l3).imp fun D σ H h => set_den h
    · unfold chkSetC at h2
      split at h2
      · rename_i own tgx it t z elt tge ite ifs scope pos _
        obtain ⟨h2, h3⟩ := and2 h2
        obtain ⟨ha, hb⟩ := and2 h2
        have ha := of_decide_eq_true ha
        have hsw : swapsWith (.ListComp elt [⟨tge, ite, ifs, 0⟩] scope pos) (some (.Name y py)) sp.line X.env = pure true := sw_true (by rw [C.c.hsc]; exact C.kind) (by rw [C.c.hsc]; exact ha) hb (by simpa using h3)
        unfold chkX at hx
        split at hx
        · rename_i hq
          cases hq
          obtain ⟨h, hx⟩ := and2 hx
          obtain ⟨h, ht⟩ := and2 h
          obtain ⟨h, hin⟩ := and2 h
          obtain ⟨h, htg⟩ := and2 h
          obtain ⟨h, hit⟩ := and2 h
          obtain ⟨hb, pl⟩ := and2 h
          refine (ps_setLc (i := i) (own := own) C.c.calm hN l1 (by rw [C.c.hsc]; exact ha) hsw (sIt it C.c _ _ hit) (blkOk_by (by rw [C.c.hN, C.c.hsc]; exact hb)) (fun s H c cl fp => sTg (C.c.blk s H _ c cl fp) _ _ htg) (fun s H c cl fp => tru_ts ht) (fun s H c cl fp => sX z (C.c.blk s H _ c cl fp) _ hx) (folded_of pl _)).imp fun D σ H h => s_comp C.c (of_decide_eq_true hin) (set_den h)
        · rename_i hq
          cases hq
          obtain ⟨h, hx⟩ := and2 hx
          obtain ⟨h, ht⟩ := and2 h
          obtain ⟨h, hin⟩ := and2 h
          obtain ⟨h, htg⟩ := and2 h
          obtain ⟨h, hit⟩ := and2 h
          obtain ⟨hb, pl⟩ := and2 h
          refine (ps_setLc (i := i) (own := own) C.c.calm hN l1 (by rw [C.c.hsc]; exact ha) hsw (sIt it C.c _ _ hit) (blkOk_by (by rw [C.c.hN, C.c.hsc]; exact hb)) (fun s H c cl fp => sTg (C.c.blk s H _ c cl fp) _ _ htg) (fun s H c cl fp => pts_one (sT t (C.c.blk s H _ c cl fp) _ ht).1) (fun s H c cl fp => sX z (C.c.blk s H _ c cl fp) _ hx) (folded_of pl _)).imp fun D σ H h => s_comp C.c (of_decide_eq_true hin) (set_den h)
        · cases hx
      · rename_i own vs1 tgx it t tg1 it1 t1 z elt tge ite ifs tge1 ite1 ifs1 scope pos _
        obtain ⟨h2, h3⟩ := and2 h2
        obtain ⟨ha, hb⟩ := and2 h2
        have ha := of_decide_eq_true ha
        have hsw : swapsWith (.ListComp elt [⟨tge, ite, ifs, 0⟩, ⟨tge1, ite1, ifs1, 0⟩] scope pos) (some (.Name y py)) sp.line X.env = pure true := sw_true (by rw [C.c.hsc]; exact C.kind) (by rw [C.c.hsc]; exact ha) hb (by simpa using h3)
        unfold chkX at hx
        obtain ⟨h, hx⟩ := and2 hx
        obtain ⟨h, ht1⟩ := and2 h
        obtain ⟨h, hin1⟩ := and2 h
        obtain ⟨h, htg1⟩ := and2 h
        obtain ⟨h, hit1⟩ := and2 h
        obtain ⟨h, ht⟩ := and2 h
        obtain ⟨h, hin⟩ := and2 h
        obtain ⟨h, htg⟩ := and2 h
        obtain ⟨h, hit⟩ := and2 h
        obtain ⟨h, hv⟩ := and2 h
        obtain ⟨h, pl1⟩ := and2 h
        obtain ⟨hb, pl⟩ := and2 h
        refine (ps_setLc2 (i := i) (own := own) (vs1 := vs1) C.c.calm hN l1 (by rw [C.c.hsc]; exact ha) hsw (sIt it C.c _ _ hit) (blkOk_by (by rw [C.c.hN, C.c.hsc]; exact hb)) (of_decide_eq_true hv) (fun s H c cl fp => sTg (C.c.blk s H _ c cl fp) _ _ htg)
          (fun s H c cl fp => ?_) (fun s H c cl fp => sIt it1 (C.c.blk s H _ c cl fp) _ _ hit1) (fun s H c cl fp => sTg (C.c.blk s H _ c cl fp) _ _ htg1) (fun s H c cl fp => ?_) (fun s H c cl fp => sX z (C.c.blk s H _ c cl fp) _ hx) (folded_of pl _) (fun env => folded_of pl1 env)).imp fun D σ H h => s_comp2 C.c (of_decide_eq_true hin) (of_decide_eq_true hin1) (of_decide_eq_true hv) (set_den h)
        · split at ht
          · exact tru_ts ht
          · exact pts_one (sT t (C.c.blk s H _ c cl fp) _ ht).1
          · cases ht
        · split at ht1
          · exact tru_ts ht1
          · exact pts_one (sT t1 (C.c.blk s H _ c cl fp) _ ht1).1
          · cases ht1
      · cases h2
  · cases h
theorem s_setf (C : CtxS X Tb N sc n E CA W) {i : Nat} {e : Den.X} {st : Stmt} (h : chkC Tb N sc (.setf i e) st = true) : PS X st (denS X.K CA W (exC E (.setf i e))) := by
  unfold chkC at h
  split at h
  · rename_i y py x sp
    obtain ⟨h, hx⟩ := and2 h
    obtain ⟨h1, h2⟩ := and2 h
    obtain ⟨l1, l2, l3⟩ := loc_of C.c.hN C.c.hsc (fun x => C.c.hfn x) h1
    have hN : X.N.Nodup := by rw [C.c.hN]; exact C.c.nd
    rw [Bool.or_eq_true, Bool.or_eq_true] at h2
    rcases h2 with (h2 | h2) | h2
    rotate_left
    rotate_left
    · exact (ps_set (i := i) hN l1 l2 (sX e C.c _ hx) (sw_cell (by rw [C.c.hsc]; exact of_decide_eq_true h2)) l3).imp fun D σ H h => setf_den h
    · exact (ps_set (i := i) hN l1 l2 (sX e C.c _ hx) (sw_no h2 _ _ _) l3).imp fun D σ H h => setf_den h
    · unfold chkSetC at h2
      split at h2
      · rename_i own tgx it t z elt tge ite ifs scope pos _
        obtain ⟨h2, h3⟩ := and2 h2
        obtain ⟨ha, hb⟩ := and2 h2
        have ha := of_decide_eq_true ha
        have hsw : swapsWith (.ListComp elt [⟨tge, ite, ifs, 0⟩] scope pos) (some (.Name y py)) sp.line X.env = pure true := sw_true (by rw [C.c.hsc]; exact C.kind) (by rw [C.c.hsc]; exact ha) hb (by simpa using h3)
        unfold chkX at hx
        split at hx
        · rename_i hq
          cases hq
          obtain ⟨h, hx⟩ := and2 hx
          obtain ⟨h, ht⟩ := and2 h
          obtain ⟨h, hin⟩ := and2 h
          obtain ⟨h, htg⟩ := and2 h
          obtain ⟨h, hit⟩ := and2 h
          obtain ⟨hb, pl⟩ := and2 h
          refine (ps_setLc (i := i) (own := own) C.c.calm hN l1 (by rw [C.c.hsc]; exact ha) hsw (sIt it C.c _ _ hit) (blkOk_by (by rw [C.c.hN, C.c.hsc]; exact hb)) (fun s H c cl fp => sTg (C.c.blk s H _ c cl fp) _ _ htg) (fun s H c cl fp => tru_ts ht) (fun s H c cl fp => sX z (C.c.blk s H _ c cl fp) _ hx) (folded_of pl _)).imp fun D σ H h => s_comp C.c (of_decide_eq_true hin) (setf_den h)
        · rename_i hq
          cases hq
          obtain ⟨h, hx⟩ := and2 hx
          obtain ⟨h, ht⟩ := and2 h
          obtain ⟨h, hin⟩ := and2 h
          obtain ⟨h, htg⟩ := and2 h
          obtain ⟨h, hit⟩ := and2 h
          obtain ⟨hb, pl⟩ := and2 h
          refine (ps_setLc (i := i) (own := own) C.c.calm hN l1 (by rw [C.c.hsc]; exact ha) hsw (sIt it C.c _ _ hit) (blkOk_by (by rw [C.c.hN, C.c.hsc]; exact hb)) (fun s H c cl fp => sTg (C.c.blk s H _ c cl fp) _ _ htg) (fun s H c cl fp => pts_one (sT t (C.c.blk s H _ c cl fp) _ ht).1) (fun s H c cl fp => sX z (C.c.blk s H _ c cl fp) _ hx) (folded_of pl _)).imp fun D σ H h => s_comp C.c (of_decide_eq_true hin) (setf_den h)
        · cases hx
      · rename_i own vs1 tgx it t tg1 it1 t1 z elt tge ite ifs tge1 ite1 ifs1 scope pos _
        obtain ⟨h2, h3⟩ := and2 h2
        obtain ⟨ha, hb⟩ := and2 h2
        have ha := of_decide_eq_true ha
        have hsw : swapsWith (.ListComp elt [⟨tge, ite, ifs, 0⟩, ⟨tge1, ite1, ifs1, 0⟩] scope pos) (some (.Name y py)) sp.line X.env = pure true := sw_true (by rw [C.c.hsc]; exact C.kind) (by rw [C.c.hsc]; exact ha) hb (by simpa using h3)
        unfold chkX at hx
        obtain ⟨h, hx⟩ := and2 hx
        obtain ⟨h, ht1⟩ := and2 h
        obtain ⟨h, hin1⟩ := and2 h
        obtain ⟨h, htg1⟩ := and2 h
        obtain ⟨h, hit1⟩ := and2 h
        obtain ⟨h, ht⟩ := and2 h
        obtain ⟨h, hin⟩ := and2 h
        obtain ⟨h, htg⟩ := and2 h
        obtain ⟨h, hit⟩ := and2 h
        obtain ⟨h, hv⟩ := and2 h
        obtain ⟨h, pl1⟩ := and2 h
        obtain ⟨hb, pl⟩ := and2 h
        refine (ps_setLc2 (i := i) (own := own) (vs1 := vs1) C.c.calm hN l1 (by rw [C.c.hsc]; exact ha) hsw (sIt it C.c _ _ hit) (blkOk_by (by rw [C.c.hN, C.c.hsc]; exact hb)) (of_decide_eq_true hv) (fun s H c cl fp => sTg (C.c.blk s H _ c cl fp) _ _ htg)
          (fun s H c cl fp => ?_) (fun s H c cl fp => sIt it1 (C.c.blk s H _ c cl fp) _ _ hit1) (fun s H c cl fp => sTg (C.c.blk s H _ c cl fp) _ _ htg1) (fun s H c cl fp => ?_) (fun s H c cl fp => sX z (C.c.blk s H _ c cl fp) _ hx) (folded_of pl _) (fun env => folded_of pl1 env)).imp fun D σ H h => s_comp2 C.c (of_decide_eq_true hin) (of_decide_eq_true hin1) (of_decide_eq_true hv) (setf_den h)
        · split at ht
          · exact tru_ts ht
          · exact pts_one (sT t (C.c.blk s H _ c cl fp) _ ht).1
          · cases ht
        · split at ht1
          · exact tru_ts ht1
          · exact pts_one (sT t1 (C.c.blk s H _ c cl fp) _ ht1).1
          · cases ht1
      · cases h2
  · cases h
theorem sole_no {e : Expr} (h : noComp e = true) (t : Expr) (l : Nat) (env : PySem.Env) : swapsWithSole [t] e l env = pure false := by
  unfold swapsWithSole
  exact sw_no h _ _ _
theorem swapped_no {es : List Expr} {k : Nat} {tp : Pos} {x : Expr} {env : PySem.Env} (h : (!isTup x) = true) : swappedStores [.Tuple es k tp] x env = pure none := by
  cases x <;> first | rfl | (exact Bool.noConfusion h)
theorem s_asg (C : CtxS X Tb N sc n E CA W) {t : Tg} {e : Den.X} {st : Stmt} (h : chkC Tb N sc (.asg t e) st = true) : PS X st (denS X.K CA W (exC E (.asg t e))) := by
  unfold chkC at h
  split at h
  · rename_i es k tp x sp
    obtain ⟨h, h4⟩ := and2 h
    obtain ⟨h, h3⟩ := and2 h
    obtain ⟨h1, h2⟩ := and2 h
    refine (ps_asg (sX e C.c _ h4) (sTg C.c t _ h3) (sole_no h2 _ _ _) (swapped_no h1)).imp fun D σ H ⟨F, G, s, hK, hC, R, P⟩ => ?_
    have P : PostS W F G D ((evX E e s).to fun v s1 => match v.d with
      | some d => match S.asg t d s1 with
        | some s2 => .nx s2
        | none => .bad
      | none => .bad) := P
    refine ⟨F, G, s, hK, hC, R, (P.toE (σ := σ)).imp fun v H1 ⟨x, s1, G1, x1, R1, r1, P1⟩ => ?_⟩
    cases hd : x.d with
    | none => rw [hd] at P1; exact P1.elim
    | some d =>
      rw [hd] at P1
      have P1 : PostS W F G1 D (match S.asg t d s1 with | some s2 => .nx s2 | none => .bad) := P1
      cases ha : S.asg t d s1 with
      | none => rw [ha] at P1; exact P1.elim
      | some s2 =>
        rw [ha] at P1
        obtain ⟨G2, x2, R2, r2⟩ := r1.freeze R1 hd
        exact ⟨F, G2, s1, d, s2, hK, hC, R2, r2, ha, fun σ' G' H' x' R' _ => P1 σ' G' H' (x2.trans x') R'⟩
  · cases h
theorem putF_names {f : Str} {y : V} : ∀ fs : List (Str × V), (putF f y fs).map (·.1) = putFN f (fs.map (·.1))
  | [] => rfl
  | (g, x) :: r => by
    show ((if g = f then (g, y) :: r else (g, x) :: putF f y r).map fun p => p.1) = if g = f then g :: r.map (·.1) else g :: putFN f (r.map (·.1))
    split
    · rfl
    · rw [List.map_cons, putF_names r]
theorem putF_reps {K : PySem.W.Frag} {CA : Nat → Option Addr} {G : Hp} {f : Str} {y : V} {d : D} (ry : Rep K CA G y d) : ∀ {fs : List (Str × V)} {ds : List D}, Reps K CA G (fs.map (·.2)) ds → Reps K CA G ((putF f y fs).map (·.2)) (putFV f d (fs.map (·.1)) ds)
  | [], ds, h => by cases h; exact .cons ry .nil
  | (g, x) :: r, ds, h => by
    cases h with
    | cons r1 r2 =>
      rename_i e es
      show Reps K CA G ((if g = f then (g, y) :: r else (g, x) :: putF f y r).map fun p => p.2) (if g = f then d :: es else e :: putFV f d (r.map (·.1)) es)
      split
      · exact .cons ry r2
      · exact .cons r1 (putF_reps ry r2)
theorem s_setfld (C : CtxS X Tb N sc n E CA W) {c i : Nat} {f : Str} {e : Den.X} {st : Stmt} (h : chkC Tb N sc (.setfld c i f e) st = true) : PS X st (denS X.K CA W (exC E (.setfld c i f e))) := by
  unfold chkC at h
  split at h
  · rename_i x xp g ap v sp
    obtain ⟨h, h5⟩ := and2 h
    obtain ⟨h, h4⟩ := and2 h
    obtain ⟨h, h3⟩ := and2 h
    obtain ⟨h1, h2⟩ := and2 h
    have eg := of_decide_eq_true h2
    subst eg
    refine (ps_fld (s_name C.c h1) (sX e C.c _ h5) (by cases v <;> first | rfl | (exact Bool.noConfusion h3))).imp fun D σ H ⟨F, G, s, hK, hC, R, P⟩ => ?_
    have P : PostS W F G D ((evX E e s).to fun v s1 => match v.d with
      | some d => match (s1.look (.at i)).bind (sfS c f d) with
        | some d2 => match s1.store i d2 with
          | some s2 => .nx s2
          | none => .bad
        | none => .bad
      | none => .bad) := P
    refine ⟨F, G, s, hK, hC, R, (P.toE (σ := σ)).imp fun v H1 ⟨x, s1, G1, x1, R1, r1, P1⟩ => ?_⟩
    cases hd : x.d with
    | none => rw [hd] at P1; exact P1.elim
    | some d =>
      rw [hd] at P1
      have P1 : PostS W F G1 D (match (s1.look (.at i)).bind (sfS c f d) with
        | some d2 => match s1.store i d2 with
          | some s2 => .nx s2
          | none => .bad
        | none => .bad) := P1
      obtain ⟨G2, x2, R2, r2⟩ := r1.freeze R1 hd
      cases hl : s1.look (.at i) with
      | none => rw [hl] at P1; exact P1.elim
      | some z =>
        rw [hl] at P1
        have P1 : PostS W F G1 D (match sfS c f d z with
          | some d2 => match s1.store i d2 with
            | some s2 => .nx s2
            | none => .bad
          | none => .bad) := P1
        cases hz : sfS c f d z with
        | none => rw [hz] at P1; exact P1.elim
        | some d2 =>
          rw [hz] at P1
          have P1 : PostS W F G1 D (match s1.store i d2 with
            | some s2 => .nx s2
            | none => .bad) := P1
          cases hs : s1.store i d2 with
          | none => rw [hs] at P1; exact P1.elim
          | some s2 =>
            rw [hs] at P1
            have P9 : PostS W F G1 D (.nx s2) := P1
            clear P1
            obtain ⟨q, e1, n', st⟩ := R2.store hs
            cases z <;> first | (cases hz; done) | skip
            rename_i c' ns vs
            have hz : (if c' = c ∧ ns.length = vs.length ∧ ns.length < 1000 then some (Den.D.obj c (putFN f ns) (putFV f d ns vs)) else none) = some d2 := hz
            split at hz
            · rename_i hc
              obtain ⟨k1, k2, k3⟩ := hc
              subst k1
              cases hz
              obtain ⟨a, C', dx, fs, ea, e2, e3, e4, rr⟩ := (R2.look (show PVOk F G2 σ (.ref q) (.at i) from e1) hl).obj R2.gh
              cases ea
              subst e4
              have h4' := List.all_eq_true.mp h4 c' List.mem_cons_self
              split at h4'
              · rename_i I hI
                obtain ⟨C2, hC2, ok⟩ := C.c.tab.cls c' I hI
                rw [hC, hC2] at e2
                cases e2
                refine ⟨.ref q, e1, q, _, dx, fs, rfl, e3, ok.cl, ok.fl f h4', by simpa using k3, ?_⟩
                have one : One F.K F.CA G2 (upd H1 q (.ins C' dx (putF f v fs))) q (.obj c' (putFN f (fs.map (·.1))) (putFV f d (fs.map (·.1)) vs)) := by
                  rw [← putF_names]
                  exact .obj (by rw [hC]; exact hC2) upd_same (putF_reps r2 rr)
                exact P9 σ G2 _ x2 (st _ one)
              · cases h4'
            · cases hz
  · cases h
theorem s_setix (C : CtxS X Tb N sc n E CA W) {i : Nat} {k e : Den.X} {st : Stmt} (h : chkC Tb N sc (.setix i k e) st = true) : PS X st (denS X.K CA W (exC E (.setix i k e))) := by
  unfold chkC at h
  split at h
  · rename_i x xp ix ip v sp
    obtain ⟨h, h5⟩ := and2 h
    obtain ⟨h, h4⟩ := and2 h
    obtain ⟨h, h3⟩ := and2 h
    obtain ⟨h1, h2⟩ := and2 h
    have hk := pe_p C.c h4 (sX k C.c _ h4)
    refine (ps_asg (sX e C.c _ h5) (pg_sub (s_name C.c h1) hk set_list (fun _ => by cases ix <;> first | rfl | (exact Bool.noConfusion h2))) (sole_no h3 _ _ _) (by cases v <;> rfl)).imp fun D σ H ⟨F, G, s, hK, hC, R, P⟩ => ?_
    have P : PostS W F G D ((evX E e s).to fun v s1 => match v.d with
      | some d => match s1.slot i with
        | some _ => (evP E k s1).to fun p s2 => match s2.look (.at i), s2.look p with
          | some (.lst xs), some (.int j) => match ixN xs.length j with
            | some n => match s2.store i (.lst (xs.set n d)) with
              | some s3 => .nx s3
              | none => .bad
            | none => .bad
          | _, _ => .bad
        | none => .bad
      | none => .bad) := P
    refine ⟨F, G, s, hK, hC, R, (P.toE (σ := σ)).imp fun v H1 ⟨x, s1, G1, x1, R1, r1, P1⟩ => ?_⟩
    cases hd : x.d with
    | none => rw [hd] at P1; exact P1.elim
    | some d =>
      rw [hd] at P1
      have P1 : PostS W F G1 D (match s1.slot i with
        | some _ => (evP E k s1).to fun p s2 => match s2.look (.at i), s2.look p with
          | some (.lst xs), some (.int j) => match ixN xs.length j with
            | some n => match s2.store i (.lst (xs.set n d)) with
              | some s3 => .nx s3
              | none => .bad
            | none => .bad
          | _, _ => .bad
        | none => .bad) := P1
      cases hs : s1.slot i with
      | none => rw [hs] at P1; exact P1.elim
      | some y =>
        rw [hs] at P1
        obtain ⟨w, hw, _⟩ := R1.slots i y (slot_env hs)
        obtain ⟨G2, x2, R2, r2⟩ := r1.freeze R1 hd
        have P1 : PostS W F G2 D ((evP E k s1).to fun p s2 => match s2.look (.at i), s2.look p with
          | some (.lst xs), some (.int j) => match ixN xs.length j with
            | some n => match s2.store i (.lst (xs.set n d)) with
              | some s3 => .nx s3
              | none => .bad
            | none => .bad
          | _, _ => .bad) := PostS.mono x2 P1
        refine ⟨w, hw, F, G2, s1, hK, hC, R2, (P1.toP (σ := σ)).imp fun u H2 ⟨p, s2, G3, x3, R3, pv, P3⟩ => ?_⟩
        split at P3
        · rename_i xs j h1 h2
          split at P3
          · rename_i m hm
            split at P3
            · rename_i s3 h3
              obtain ⟨q, vs, hv, hq, rq⟩ := (R3.look (show PVOk F G3 σ w (.at i) from hw) h1).lst R3.gh
              have hu := (R3.look pv h2).int
              obtain ⟨q', e1, n', st⟩ := R3.store h3
              rw [hw] at e1
              cases e1
              cases hv
              refine ⟨q, vs, j, m, rfl, hu, hq, by rw [rq.length]; exact hm, ?_⟩
              exact P3 σ G3 _ (Evl.Ex.refl _) (st _ (.lst upd_same (rq.set (r2.mono x3) m)))
            · exact P3.elim
          · exact P3.elim
        · exact P3.elim
  · cases h
/-! ### loops -/
theorem s_for (C : CtxS X Tb N sc n E CA W) {tg : Tg} {it : It} {b : List Den.C} {w : List Nat} {tge ite : Expr} {b' : List Stmt} {pos : Pos} (pl : plain ite = true) (hit : chkIt Tb N sc it ite tge = true) (htg : chkTg N sc (fun _ => true) tg tge = true)
    (hb : PSs X b' (denS X.K CA W (exCs E b))) : PS X (.For tge ite b' [] pos) (denS X.K CA W (exC E (.for tg it b w))) := by
  refine (ps_for C.po C.c.calm (sIt it C.c _ _ hit) (sTg C.c tg _ htg) hb (folded_of pl _)).imp fun D σ H ⟨F, G, s, hK, hC, R, P⟩ => ⟨F, G, s, hK, hC, R, ?_⟩
  have P : PostS W F G D ((evIt E it s).to fun ps0 s0 => match s0.fixes ps0 with
    | none => .bad
    | some (ps, s1) => match s1.looks ps with
      | none => .bad
      | some ds => match itSem it ds with
        | none => .bad
        | some items => forRun (fun s d => match S.asg tg d s with
        | none => .bad
        | some s' => exCs E b s') (fun s => decide (s.looks ps = some ds)) w items s1) := P
  cases hm : evIt E it s with
  | ex c p s1 => rw [hm] at P; exact fun G' H' cls d x R k => P σ G' H' cls d x R k
  | bad => rw [hm] at P; exact P
  | ok ps0 s0 =>
    rw [hm] at P
    intro vs G1 H1 x1 R1 pvs0
    have P : PostS W F G D (match s0.fixes ps0 with
      | none => .bad
      | some (ps, s1) => match s1.looks ps with
        | none => .bad
        | some ds => match itSem it ds with
          | none => .bad
          | some items => forRun (fun s d => match S.asg tg d s with
          | none => .bad
          | some s' => exCs E b s') (fun s => decide (s.looks ps = some ds)) w items s1) := P
    cases hf : s0.fixes ps0 with
    | none => rw [hf] at P; exact P.elim
    | some r =>
      obtain ⟨ps, s1⟩ := r
      rw [hf] at P
      obtain ⟨G2, x2, R2, pvs, na⟩ := R1.fixes pvs0 hf
      have P : PostS W F G D (match s1.looks ps with
        | none => .bad
        | some ds => match itSem it ds with
          | none => .bad
          | some items => forRun (fun s d => match S.asg tg d s with
          | none => .bad
          | some s' => exCs E b s') (fun s => decide (s.looks ps = some ds)) w items s1) := P
      cases hl : s1.looks ps with
      | none => rw [hl] at P; exact P.elim
      | some ds =>
        rw [hl] at P
        have P : PostS W F G D (match itSem it ds with
          | none => .bad
          | some items => forRun (fun s d => match S.asg tg d s with
          | none => .bad
          | some s' => exCs E b s') (fun s => decide (s.looks ps = some ds)) w items s1) := P
        cases hi : itSem it ds with
        | none => rw [hi] at P; exact P.elim
        | some items =>
          rw [hi] at P
          have P : PostS W F G2 D (forRun (fun s d => match S.asg tg d s with
            | none => .bad
            | some s' => exCs E b s') (fun s => decide (s.looks ps = some ds)) w items s1) := PostS.mono (x1.trans x2) P
          refine ⟨ds, items, fixes_looks hf hl, hi, fun J hJ => ?_⟩
          refine ⟨fun i m σ' H' => m = items.length - i ∧ i ≤ items.length ∧ ∃ G' s', Ex G2 G' ∧ RS F G' H' σ' s' ∧ PostS W F G' D (forRun (fun s d => match S.asg tg d s with
            | none => .bad
            | some s' => exCs E b s') (fun s => decide (s.looks ps = some ds)) w (items.drop i) s'), ⟨items.length, rfl, Nat.zero_le _, G2, s1, Evl.Ex.refl _, R2, P⟩, ?_⟩
          rintro i m σ' H' ⟨rfl, hi', G', s', xg, R', P'⟩
          have pv' : PVs F G' σ' vs ps := PVs.free na (pvs.mono xg)
          by_cases hlt : i < items.length
          · have hdrop : items.drop i = items[i] :: items.drop (i + 1) := List.drop_eq_getElem_cons hlt
            rw [hdrop] at P'
            unfold forRun at P'
            by_cases hok : s'.looks ps = some ds
            · rw [if_pos (decide_eq_true hok)] at P'
              have wk := (hJ ps F rfl σ' G' H' s' i R' pv' hok).2 items[i] (List.getElem?_eq_getElem hlt)
              refine .inr ⟨wk.1, fun σ2 H2 => i + 1 ≤ items.length ∧ ∃ G' s', Ex G2 G' ∧ RS F G' H2 σ2 s' ∧ PostS W F G' D (forRun (fun s d => match S.asg tg d s with
                | none => .bad
                | some s' => exCs E b s') (fun s => decide (s.looks ps = some ds)) w (items.drop (i + 1)) s'), fun σ2 H2 h2 => ⟨items.length - (i + 1), by omega, rfl, h2.1, h2.2⟩, fun y H2 hy => ?_⟩
              obtain ⟨G3, x3, R3, r3⟩ := wk.2 y H2 hy
              cases ha : S.asg tg items[i] (s'.wipe w) with
              | none => simp only [ha] at P'; exact P'.elim
              | some s2 =>
                simp only [ha] at P'
                refine ⟨F, G3, s'.wipe w, items[i], s2, hK, hC, R3.wipe w, r3, ha, fun σ3 G4 H3 x4 R4 _ => ⟨F, G4, s2, hK, hC, R4, ?_⟩⟩
                have P' := PostS.mono (x3.trans x4) P'
                cases hb2 : exCs E b s2 with
                | nx s3 => rw [hb2] at P'; exact fun σ5 G5 H5 x5 R5 => ⟨hlt, G5, s3, ((xg.trans x3).trans x4).trans x5, R5, PostS.mono x5 P'⟩
                | ct s3 => rw [hb2] at P'; exact fun σ5 G5 H5 x5 R5 => ⟨hlt, G5, s3, ((xg.trans x3).trans x4).trans x5, R5, PostS.mono x5 P'⟩
                | bk s3 => rw [hb2] at P'; exact fun σ5 G5 H5 x5 R5 => P' σ5 G5 H5 x5 (R5.wipe w)
                | rt v s3 => rw [hb2] at P'; exact P'
                | ex c p s3 => rw [hb2] at P'; exact P'
                | bad => rw [hb2] at P'; exact P'
            · rw [if_neg (by rw [decide_eq_false hok]; exact Bool.false_ne_true)] at P'
              exact P'.elim
          · have hge : items.length ≤ i := Nat.le_of_not_lt hlt
            have hdrop : items.drop i = [] := List.drop_eq_nil_of_le hge
            rw [hdrop] at P'
            unfold forRun at P'
            by_cases hok : s'.looks ps = some ds
            · rw [if_pos (decide_eq_true hok)] at P'
              exact .inl ⟨(hJ ps F rfl σ' G' H' s' i R' pv' hok).1 hge, P' σ' G' H' (Evl.Ex.refl _) (R'.wipe w)⟩
            · rw [if_neg (by rw [decide_eq_false hok]; exact Bool.false_ne_true)] at P'
              exact P'.elim
theorem s_while (C : CtxS X Tb N sc n E CA W) {t : T} {b : List Den.C} {w : List Nat} {c : Expr} {b' : List Stmt} {pos : Pos} (hc : chkT Tb N sc t c = true)
    (hb : PSs X b' (denS X.K CA W (exCs E b))) : PS X (.While c b' [] pos) (denS X.K CA W (exC E (.while t b w))) := by
  refine (ps_while C.po (sT t C.c _ hc).1 hb).imp fun D σ H ⟨F, G, s, hK, hC, R, P⟩ => ?_
  have P : PostS W F G D (whileRun (evT E t) (exCs E b) w E.wf s) := P
  refine ⟨fun m σ' H' => ∃ G' s', RS F G' H' σ' s' ∧ PostS W F G' D (whileRun (evT E t) (exCs E b) w m s'), ⟨_, G, s, R, P⟩, ?_⟩
  rintro m σ' H' ⟨G', s', R', P'⟩
  cases m with
  | zero => exact P'.elim
  | succ m =>
    have P' : PostS W F G' D ((evT E t (s'.wipe w)).to fun b1 s1 => if b1 = true then loopNext (whileRun (evT E t) (exCs E b) w m) w (exCs E b s1) else .nx (s1.wipe w)) := P'
    refine ⟨F, G', s'.wipe w, hK, hC, R'.wipe w, (P'.toT (σ := σ')).imp fun bb H2 ⟨s1, G2, x2, R2, P2⟩ => ?_⟩
    cases bb with
    | false => rw [if_neg Bool.false_ne_true] at P2 ⊢; exact P2 σ' G2 H2 (Evl.Ex.refl _) (R2.wipe w)
    | true =>
      rw [if_pos rfl] at P2 ⊢
      refine ⟨fun σ3 H3 => ∃ G' s', RS F G' H3 σ3 s' ∧ PostS W F G' D (whileRun (evT E t) (exCs E b) w m s'), fun σ3 H3 h3 => ⟨m, Nat.lt_succ_self m, h3⟩, F, G2, s1, hK, hC, R2, ?_⟩
      cases hb2 : exCs E b s1 with
      | nx s3 => rw [hb2] at P2; exact fun σ5 G5 H5 x5 R5 => ⟨G5, s3, R5, PostS.mono x5 P2⟩
      | ct s3 => rw [hb2] at P2; exact fun σ5 G5 H5 x5 R5 => ⟨G5, s3, R5, PostS.mono x5 P2⟩
      | bk s3 => rw [hb2] at P2; exact fun σ5 G5 H5 x5 R5 => P2 σ5 G5 H5 x5 (R5.wipe w)
      | rt v s3 => rw [hb2] at P2; exact P2
      | ex c p s3 => rw [hb2] at P2; exact P2
      | bad => rw [hb2] at P2; exact P2
end
end Den
set_option Elab.async false
set_option linter.all false
set_option maxRecDepth 100000
set_option autoImplicit false
set_option maxHeartbeats 4000000
namespace Den
open PySem PySem.Spec PyProof.Rows L2
section
variable {X : Cx} {Tb : Tab} {N : List Str} {sc : Scope} {n : Nat} {E : Env} {CA : Nat → Option Addr} {W : WX}
theorem s_raise (C : CtxS X Tb N sc n E CA W) {c : Nat} {x m : Str} {j : Nat} {p p2 pos pos' : Pos} (hg : glB sc x = true) (hx : Tb.exs[c]? = some x) : PS X (.Raise (some (.Call (.Name x p) [.Constant (.str m) j p2] [] pos)) none pos') (denS X.K CA W (exC E (.raise c))) := by
  obtain ⟨g, o⟩ := C.c.gl hg
  obtain ⟨A, hA, ec⟩ := C.ex.cls c x hx
  refine (ps_raise C.c.calm C.c.tk (pmk_own PySem.F.excBase_ValueError ec.ex ec.g ec.kp (raises_own ec.sb ec.ty) g (okName_dbg o).1)).imp fun D σ H ⟨F, G, s, hK, hC, R, P⟩ => ?_
  exact P σ G H _ none (Evl.Ex.refl _) R (.non (by rw [hC]; exact hA) rfl)
theorem PostH.of {a : Addr} {cls : Value} {d : Option Addr} {ei : Option Nat} {c : Nat} {p : List (Str × D)} {F : Fr} {G : Hp} {D : Ends} {o : O} {w : List Nat}
    (h : PostS W F G D ((o.wipeA ei.toList).wipe w)) : PostH a cls d ei c p F G { nx := fun σ H => D.nx (match ei with | some i => σ.set i none | none => σ) H, rt := D.rt, bk := fun σ H => D.bk (match ei with | some i => σ.set i none | none => σ) H, ct := fun σ H => D.ct (match ei with | some i => σ.set i none | none => σ) H } o := by
  have aux : ∀ {σ : L2.St} {G' H : Hp} {s : S}, RS F G' H σ s → RS F G' H (match ei with | some i => σ.set i none | none => σ) (s.wipe ei.toList) := fun {σ G' H s} R => by
    cases ei with
    | none => exact R
    | some i => exact (R.wipe [i]).setN fun x => wiped_env x
  have h := h.wipe
  cases o with
  | nx s => exact fun σ G' H x ho => h _ G' H x (aux ho.R)
  | bk s => exact fun σ G' H x ho => h _ G' H x (aux ho.R)
  | ct s => exact fun σ G' H x ho => h _ G' H x (aux ho.R)
  | rt y s => exact fun v σ G' H x R r => h v σ G' H x R r
  | ex _ _ _ => trivial
  | bad => exact h
theorem CtxS.tr (C : CtxS X Tb N sc n E CA W) (W' : WX) (pn : List (Addr × Obj)) (xe : Value → Shared → Prop) (tk : Takes (X.tr pn xe) W') (po : PassesOwn (model X.prog X.w) X.A X.env xe) : CtxS (X.tr pn xe) Tb N sc n E CA W' where
  c := { hN := C.c.hN, nd := C.c.nd, hsc := C.c.hsc, calm := C.c.calm, tk := tk, room := C.c.room, hfn := C.c.hfn, tab := C.c.tab }
  kind := C.kind
  hs := C.hs
  hf := C.hf
  po := po
  ex := C.ex
/-- the body of a try: what its exceptions wish -/
theorem try_body {b : List Den.C} {c : Nat} {i : Option Nat} {h : List HC} {w : List Nat} {D : Ends} {F : Fr} {G : Hp} {s : S} {W' : WX}
    (P : PostS W F G D ((match exCs E b s with
    | .ex c' p s1 => match E.sub c' c with
      | some true => if (i.toList.all fun j => decide (j < s1.env.length)) = true then (exHs E.sub c' p h (s1.wipe i.toList)).wipeA i.toList else .bad
      | some false => .ex c' p s1
      | none => .bad
    | o => o).wipe w))
    (hW : ∀ c' p s1 G' H' σ cls d, Ex G G' → RS F G' H' σ s1 → ExcOk F G' H' c' p cls d → PostS W F G' D ((match E.sub c' c with
      | some true => if (i.toList.all fun j => decide (j < s1.env.length)) = true then (exHs E.sub c' p h (s1.wipe i.toList)).wipeA i.toList else .bad
      | some false => .ex c' p s1
      | none => .bad : O).wipe w) → W' cls d σ H') : PostS W' F G D (exCs E b s) := by
  cases hb : exCs E b s with
  | nx s1 => rw [hb] at P; exact P.wipe
  | rt v s1 => rw [hb] at P; exact P
  | bk s1 => rw [hb] at P; exact P
  | ct s1 => rw [hb] at P; exact P
  | ex c' p s1 => rw [hb] at P; exact fun σ G' H' cls d x R k => hW c' p s1 G' H' σ cls d x R k (PostS.mono x P)
  | bad => rw [hb] at P; exact P
theorem exc_cls {F : Fr} {G H : Hp} {c : Nat} {p : List (Str × D)} {cls : Value} {d : Option Addr} (h : ExcOk F G H c p cls d) : ∃ C, F.CA c = some C ∧ cls = .ref C := by
  cases h with
  | non a _ => exact ⟨_, a, rfl⟩
  | dict a _ _ _ _ => exact ⟨_, a, rfl⟩
theorem s_try0 (C : CtxS X Tb N sc n E CA W) {b : List Den.C} {c : Nat} {h : List HC} {w : List Nat} {b' : List Stmt} {x : Str} {np hp pos : Pos} {h0 : Stmt} {hs : List Stmt} (hg : glB sc x = true) (hx : Tb.exs[c]? = some x)
    (hb : ∀ {Y : Cx} {W' : WX}, CtxS Y Tb N sc n E CA W' → Y.K = X.K → PSs Y b' (denS Y.K CA W' (exCs E b))) (hh : chkHs Tb N none sc h (h0 :: hs) = true) :
    PS X (.Try b' [.ExceptHandler (some (.Name x np)) none (h0 :: hs) hp] [] [] pos) (denS X.K CA W (exC E (.try1 b c none h w))) := by
  obtain ⟨g, o⟩ := C.c.gl hg
  obtain ⟨A, hA, ec⟩ := C.ex.cls c x hx
  refine (ps_try_only (c := .ref A) (tb := fun W' => denS X.K CA W' (exCs E b)) (ts := fun a cls d => denH X.K CA a cls d none fun c p => exHs E.sub c p h) C.hs C.hf ⟨g, (okName_dbg o).1, .inl ec.g⟩ C.c.tk (fun W' pn xe tk po => hb (C.tr W' pn xe tk po) rfl)
    (fun a oe cls d pn hz hf => s_hs (N := N) (sc := sc) (Tb := Tb) { hN := C.c.hN, nd := C.c.nd, hsc := C.c.hsc, hfn := C.c.hfn, bi := C.c.tab.bi, ex := C.ex, hz := hz, hf := hf } h _ hh)).imp fun D σ H ⟨F, G, s, hK, hC, R, P⟩ => ⟨F, G, s, hK, hC, R, ?_⟩
  refine try_body P fun c' p s1 G' H' σ' cls d x1 R1 k P1 => ?_
  obtain ⟨C1, e1, rfl⟩ := exc_cls k
  cases hq : E.sub c' c with
  | none => rw [hq] at P1; exact P1.elim
  | some r =>
    rw [hq] at P1
    refine ⟨r, (C.ex.kit c' c r C1 A hq (by rw [← hC]; exact e1) hA).1, fun hr a ha => ?_, fun hr => ?_⟩
    · subst hr
      have P1 : PostS W F G' D (((exHs E.sub c' p h s1).wipeA []).wipe w) := P1
      exact ⟨F, G', s1, c', p, hK, hC, ⟨R1, k, fun i hi => by cases hi⟩, PostH.of (ei := none) P1⟩
    · subst hr
      exact P1 σ' G' H' _ d (Evl.Ex.refl _) R1 k
theorem s_try1 (C : CtxS X Tb N sc n E CA W) {b : List Den.C} {c i : Nat} {h : List HC} {w : List Nat} {b' : List Stmt} {x nm : Str} {np hp pos : Pos} {h0 : Stmt} {hs : List Stmt} (hg : glB sc x = true) (hx : Tb.exs[c]? = some x) (hi : N[i]? = some nm) (hl : sc.names.lookup nm = some .local)
    (hb : ∀ {Y : Cx} {W' : WX}, CtxS Y Tb N sc n E CA W' → Y.K = X.K → PSs Y b' (denS Y.K CA W' (exCs E b))) (hh : chkHs Tb N (some i) sc h (h0 :: hs) = true) :
    PS X (.Try b' [.ExceptHandler (some (.Name x np)) (some nm) (h0 :: hs) hp] [] [] pos) (denS X.K CA W (exC E (.try1 b c (some i) h w))) := by
  obtain ⟨g, o⟩ := C.c.gl hg
  obtain ⟨A, hA, ec⟩ := C.ex.cls c x hx
  have hN : X.N.Nodup := by rw [C.c.hN]; exact C.c.nd
  refine (ps_try_as (c := .ref A) (i := i) (tb := fun W' => denS X.K CA W' (exCs E b)) (ts := fun a cls d => denH X.K CA a cls d (some i) fun c p => exHs E.sub c p h) C.hs C.hf hN (by rw [C.c.hN]; exact hi) (by show X.env.scope.names.lookup nm = some .local; rw [C.c.hsc]; exact hl) ⟨g, (okName_dbg o).1, .inl ec.g⟩ C.c.tk (fun W' pn xe tk po => hb (C.tr W' pn xe tk po) rfl)
    (fun a oe cls d pn hz hf => s_hs (N := N) (sc := sc) (Tb := Tb) { hN := C.c.hN, nd := C.c.nd, hsc := C.c.hsc, hfn := C.c.hfn, bi := C.c.tab.bi, ex := C.ex, hz := hz, hf := hf } h _ hh)).imp fun D σ H ⟨F, G, s, hK, hC, R, P⟩ => ⟨F, G, s, hK, hC, R, ?_⟩
  refine try_body P fun c' p s1 G' H' σ' cls d x1 R1 k P1 => ?_
  obtain ⟨C1, e1, rfl⟩ := exc_cls k
  cases hq : E.sub c' c with
  | none => rw [hq] at P1; exact P1.elim
  | some r =>
    rw [hq] at P1
    refine ⟨r, (C.ex.kit c' c r C1 A hq (by rw [← hC]; exact e1) hA).1, fun hr a ha => ?_, fun hr => ?_⟩
    · subst hr
      have P1 : PostS W F G' D ((if ([i].all fun j => decide (j < s1.env.length)) = true then (exHs E.sub c' p h (s1.wipe [i])).wipeA [i] else .bad).wipe w) := P1
      split at P1
      · rename_i hlt
        have hlt : i < s1.env.length := by simpa using hlt
        refine ⟨F, G', s1.wipe [i], c', p, hK, hC, ⟨(R1.wipe [i]).setN fun x => wiped_env x, k, fun j hj => ?_⟩, PostH.of (ei := some i) P1⟩
        cases hj
        exact ⟨List.getElem?_set_self (by rw [← R1.len]; exact hlt), slot_wiped i List.mem_cons_self⟩
      · exact P1.elim
    · subst hr
      exact P1 σ' G' H' _ d (Evl.Ex.refl _) R1 k
end
mutual
theorem sC : ∀ (c : Den.C) {X : Cx} {Tb : Tab} {N : List Str} {sc : Scope} {n : Nat} {E : Env} {CA : Nat → Option Addr} {W : WX} (C : CtxS X Tb N sc n E CA W) (st : Stmt), chkC Tb N sc c st = true → PS X st (denS X.K CA W (exC E c))
  | .pass, X, Tb, N, sc, n, E, CA, W, C, st, h => by
    unfold chkC at h
    split at h
    · exact ps_pass.imp fun D σ H ⟨F, G, s, hK, hC, R, P⟩ => P σ G H (Evl.Ex.refl _) R
    · cases h
  | .brk, X, Tb, N, sc, n, E, CA, W, C, st, h => by
    unfold chkC at h
    split at h
    · exact ps_break.imp fun D σ H ⟨F, G, s, hK, hC, R, P⟩ => P σ G H (Evl.Ex.refl _) R
    · cases h
  | .cont, X, Tb, N, sc, n, E, CA, W, C, st, h => by
    unfold chkC at h
    split at h
    · exact ps_continue.imp fun D σ H ⟨F, G, s, hK, hC, R, P⟩ => P σ G H (Evl.Ex.refl _) R
    · cases h
  | .expr e, X, Tb, N, sc, n, E, CA, W, C, st, h => by
    unfold chkC at h
    split at h
    · obtain ⟨h1, h2⟩ := and2 h
      refine (ps_expr (sX e C.c _ h2) (sw_no h1 _ _ _)).imp fun D σ H ⟨F, G, s, hK, hC, R, P⟩ => ?_
      have P : PostS W F G D ((evX E e s).to fun _ s1 => .nx s1) := P
      exact ⟨F, G, s, hK, hC, R, (P.toE (σ := σ)).imp fun v H1 ⟨x, s1, G1, x1, R1, r1, P1⟩ => P1 σ G1 H1 (Evl.Ex.refl _) R1⟩
    · cases h
  | .set i e, X, Tb, N, sc, n, E, CA, W, C, st, h => s_set C h
  | .setf i e, X, Tb, N, sc, n, E, CA, W, C, st, h => s_setf C h
  | .asg t e, X, Tb, N, sc, n, E, CA, W, C, st, h => s_asg C h
  | .retn, X, Tb, N, sc, n, E, CA, W, C, st, h => by
    unfold chkC at h
    split at h
    · exact ps_retN.imp fun D σ H ⟨F, G, s, hK, hC, R, P⟩ => P _ σ G H (Evl.Ex.refl _) R (Res.shr .non)
    · cases h
  | .ret e, X, Tb, N, sc, n, E, CA, W, C, st, h => by
    unfold chkC at h
    split at h
    · refine (ps_ret (sX e C.c _ h)).imp fun D σ H ⟨F, G, s, hK, hC, R, P⟩ => ?_
      have P : PostS W F G D ((evX E e s).to fun v s1 => .rt v s1) := P
      exact ⟨F, G, s, hK, hC, R, (P.toE (σ := σ)).imp fun v H1 ⟨x, s1, G1, x1, R1, r1, P1⟩ => P1 v σ G1 H1 (Evl.Ex.refl _) R1 r1⟩
    · cases h
  | .retv i, X, Tb, N, sc, n, E, CA, W, C, st, h => by
    unfold chkC at h
    split at h
    · refine (ps_ret (s_name C.c h)).imp fun D σ H ⟨F, G, s, hK, hC, R, P⟩ => ?_
      have P : PostS W F G D (match s.slot i with
        | some (.own d) => .rt (.own d) (s.wipe [i])
        | some (.shr d) => .rt (.shr d) s
        | _ => .bad) := P
      split at P
      · rename_i d hs
        have he := slot_env hs
        obtain ⟨v, e1, sl⟩ := R.slots i _ he
        refine ⟨v, e1, P v σ G H (Evl.Ex.refl _) (R.wipe [i]) ⟨sl, fun _ => (by intro z; cases z), fun _ j y e2 m q => ?_⟩⟩
        obtain ⟨a1, a2⟩ := foldl_none e2
        exact a2 (by
          have := R.inj j i y _ a1 he m rfl (by rw [q, e1])
          rw [this]; exact List.mem_cons_self)
      · rename_i d hs
        obtain ⟨v, e1, sl⟩ := R.slots i _ (slot_env hs)
        exact ⟨v, e1, P v σ G H (Evl.Ex.refl _) R (Res.shr sl)⟩
      · exact P.elim
    · cases h
  | .setix i k e, X, Tb, N, sc, n, E, CA, W, C, st, h => s_setix C h
  | .setfld c i f e, X, Tb, N, sc, n, E, CA, W, C, st, h => s_setfld C h
  | .iff t p q w, X, Tb, N, sc, n, E, CA, W, C, st, h => by
    unfold chkC at h
    split at h
    · obtain ⟨h, h3⟩ := and2 h
      obtain ⟨h1, h2⟩ := and2 h
      refine (ps_if (sT t C.c _ h1).1 (sCs p C _ h2) (sCs q C _ h3)).imp fun D σ H ⟨F, G, s, hK, hC, R, P⟩ => ?_
      have P : PostS W F G D ((evT E t s).to fun c s1 => (if c = true then exCs E p s1 else exCs E q s1).wipe w) := P
      refine ⟨F, G, s, hK, hC, R, (P.toT (σ := σ)).imp fun b H1 ⟨s1, G1, x1, R1, P1⟩ => ?_⟩
      have P1 := P1.wipe
      cases b with
      | true => rw [if_pos rfl] at P1 ⊢; exact ⟨F, G1, s1, hK, hC, R1, P1⟩
      | false => rw [if_neg Bool.false_ne_true] at P1 ⊢; exact ⟨F, G1, s1, hK, hC, R1, P1⟩
    · cases h
  | .for tg it b w, X, Tb, N, sc, n, E, CA, W, C, st, h => by
    unfold chkC at h
    split at h
    · obtain ⟨h, h4⟩ := and2 h
      obtain ⟨h, h3⟩ := and2 h
      obtain ⟨h1, h2⟩ := and2 h
      exact s_for C h1 h2 h3 (sCs b C _ h4)
    · cases h
  | .while t b w, X, Tb, N, sc, n, E, CA, W, C, st, h => by
    unfold chkC at h
    split at h
    · obtain ⟨h1, h2⟩ := and2 h
      exact s_while C h1 (sCs b C _ h2)
    · cases h
  | .raise c, X, Tb, N, sc, n, E, CA, W, C, st, h => by
    unfold chkC at h
    split at h
    · obtain ⟨h1, h2⟩ := and2 h
      exact s_raise C h1 (of_decide_eq_true h2)
    · cases h
  | .try1 b c i hh w, X, Tb, N, sc, n, E, CA, W, C, st, h => by
    unfold chkC at h
    split at h
    · obtain ⟨h, h4⟩ := and2 h
      obtain ⟨h, h3⟩ := and2 h
      obtain ⟨h1, h2⟩ := and2 h
      exact s_try0 C h1 (of_decide_eq_true h2) (fun {Y W'} CY hY => sCs b CY _ h3) h4
    · obtain ⟨h, h6⟩ := and2 h
      obtain ⟨h, h5⟩ := and2 h
      obtain ⟨h, h4⟩ := and2 h
      obtain ⟨h, h3⟩ := and2 h
      obtain ⟨h1, h2⟩ := and2 h
      exact s_try1 C h1 (of_decide_eq_true h2) (of_decide_eq_true h3) (of_decide_eq_true h4) (fun {Y W'} CY hY => sCs b CY _ h5) h6
    · cases h
theorem sCs : ∀ (cs : List Den.C) {X : Cx} {Tb : Tab} {N : List Str} {sc : Scope} {n : Nat} {E : Env} {CA : Nat → Option Addr} {W : WX} (C : CtxS X Tb N sc n E CA W) (sts : List Stmt), chkCs Tb N sc cs sts = true → PSs X sts (denS X.K CA W (exCs E cs))
  | [], X, Tb, N, sc, n, E, CA, W, C, sts, h => by
    unfold chkCs at h
    split at h
    · exact pss_nil.imp fun D σ H ⟨F, G, s, hK, hC, R, P⟩ => P σ G H (Evl.Ex.refl _) R
    · cases h
  | c :: cs, X, Tb, N, sc, n, E, CA, W, C, sts, h => by
    unfold chkCs at h
    split at h
    · obtain ⟨h1, h2⟩ := and2 h
      refine (pss_cons (sC c C _ h1) (sCs cs C _ h2)).imp fun D σ H ⟨F, G, s, hK, hC, R, P⟩ => ⟨F, G, s, hK, hC, R, ?_⟩
      have P : PostS W F G D ((exC E c s).bind fun s1 => exCs E cs s1) := P
      show PostS W F G _ (exC E c s)
      cases hx : exC E c s with
      | nx s1 => rw [hx] at P; exact fun σ1 G1 H1 x1 R1 => ⟨F, G1, s1, hK, hC, R1, PostS.mono x1 P⟩
      | rt y s1 => rw [hx] at P; exact P
      | bk s1 => rw [hx] at P; exact P
      | ct s1 => rw [hx] at P; exact P
      | ex _ _ _ => rw [hx] at P; exact P
      | bad => rw [hx] at P; exact P
    · cases h
end
end Den
set_option Elab.async false
set_option linter.all false
set_option maxRecDepth 100000
set_option autoImplicit false
set_option maxHeartbeats 4000000
namespace Den
open PySem PySem.Spec PyProof.Rows L2
/-! ### defs -/
section
variable {K : PySem.W.Frag} {CA : Nat → Option Addr} {B H : Hp}
theorem args_len : ∀ {vs : List V} {as : List Arg} {rs : List Addr}, ArgsOk K CA B H vs as rs → vs.length = as.length ∧ (initBs as).length = rs.length
  | [], [], [], _ => ⟨rfl, rfl⟩
  | v :: vs, .val d :: as, rs, h => ⟨by simp [(args_len h.2).1], (args_len h.2).2⟩
  | v :: vs, .bor d :: as, r :: rs, h => ⟨by simp [(args_len h.2).1], by simp [initBs, (args_len h.2).2]⟩
  | [], [], _ :: _, h => h.elim
  | [], _ :: _, _, h => by cases h
  | _ :: _, [], _, h => by cases h
  | _ :: _, .bor _ :: _, [], h => by cases h
theorem args_lent : ∀ {vs : List V} {as : List Arg} {rs : List Addr}, ArgsOk K CA B H vs as rs → ∀ p ∈ rs, ∃ o, H p = some o
  | [], [], [], _ => fun p hp => by cases hp
  | v :: vs, .val d :: as, rs, h => args_lent h.2
  | v :: vs, .bor d :: as, r :: rs, h => fun p hp => by
    rcases List.mem_cons.mp hp with rfl | hp
    · exact h.1.2.1.there
    · exact args_lent h.2 p hp
  | [], [], _ :: _, h => h.elim
  | [], _ :: _, _, h => by cases h
  | _ :: _, [], _, h => by cases h
  | _ :: _, .bor _ :: _, [], h => by cases h
theorem args_bors : ∀ {vs : List V} {as : List Arg} {rs : List Addr}, ArgsOk K CA B H vs as rs → ∀ (k : Nat) (p : Addr) (d : D), rs[k]? = some p → (initBs as)[k]? = some d → One K CA B H p d ∧ B p = none
  | [], [], [], _ => fun k p d e => by simp at e
  | v :: vs, .val d :: as, rs, h => fun k p d' e1 e2 => args_bors h.2 k p d' e1 e2
  | v :: vs, .bor d :: as, r :: rs, h => fun k p d' e1 e2 => by
    cases k with
    | zero => cases e1; cases e2; exact h.1.2
    | succ k => exact args_bors h.2 k p d' e1 e2
  | [], [], _ :: _, h => h.elim
  | [], _ :: _, _, h => by cases h
  | _ :: _, [], _, h => by cases h
  | _ :: _, .bor _ :: _, [], h => by cases h
theorem args_env : ∀ {vs : List V} {as : List Arg} {rs : List Addr} (k : Nat), ArgsOk K CA B H vs as rs → ∀ (i : Nat) (x : SV), (initEnv as k)[i]? = some (some x) →
    ∃ v, vs[i]? = some v ∧ ((∃ d, x = .shr d ∧ Rep K CA B v d) ∨ ∃ j p, x = .bor (k + j) ∧ rs[j]? = some p ∧ v = .ref p)
  | [], [], [], k, _ => fun i x e => by simp [initEnv] at e
  | v :: vs, .val d :: as, rs, k, h => fun i x e => by
    cases i with
    | zero => cases e; exact ⟨v, rfl, .inl ⟨d, rfl, h.1⟩⟩
    | succ i => exact args_env k h.2 i x e
  | v :: vs, .bor d :: as, r :: rs, k, h => fun i x e => by
    cases i with
    | zero => cases e; exact ⟨v, rfl, .inr ⟨0, r, rfl, rfl, h.1.1⟩⟩
    | succ i =>
      obtain ⟨w, e1, q⟩ := args_env (k + 1) h.2 i x e
      refine ⟨w, e1, q.imp id fun ⟨j, p, a, b, c⟩ => ⟨j + 1, p, by rw [a]; congr 1; omega, b, c⟩⟩
  | [], [], _ :: _, _, h => h.elim
  | [], _ :: _, _, _, h => by cases h
  | _ :: _, [], _, _, h => by cases h
  | _ :: _, .bor _ :: _, [], _, h => by cases h
theorem env_ge : ∀ {as : List Arg} {k i j : Nat}, (initEnv as k)[i]? = some (some (.bor j)) → k ≤ j
  | [], k, i, j, e => by simp [initEnv] at e
  | .val d :: as, k, i, j, e => by
    cases i with
    | zero => cases e
    | succ i => exact env_ge (as := as) (i := i) e
  | .bor d :: as, k, i, j, e => by
    cases i with
    | zero => cases e; exact Nat.le_refl _
    | succ i => have := env_ge (as := as) (k := k + 1) (i := i) e; omega
theorem env_inj : ∀ {as : List Arg} {k i i' j : Nat}, (initEnv as k)[i]? = some (some (.bor j)) → (initEnv as k)[i']? = some (some (.bor j)) → i = i'
  | [], k, i, i', j, e, _ => by simp [initEnv] at e
  | .val d :: as, k, i, i', j, e, e' => by
    cases i with
    | zero => cases e
    | succ i => cases i' with
      | zero => cases e'
      | succ i' => rw [env_inj (as := as) (i := i) (i' := i') e e']
  | .bor d :: as, k, i, i', j, e, e' => by
    cases i with
    | zero =>
      cases e
      cases i' with
      | zero => rfl
      | succ i' => have := env_ge (as := as) (k := k + 1) (i := i') e'; omega
    | succ i => cases i' with
      | zero => cases e'; have := env_ge (as := as) (k := k + 1) (i := i) e; omega
      | succ i' => rw [env_inj (as := as) (i := i) (i' := i') e e']
theorem initEnv_len : ∀ {as : List Arg} {k : Nat}, (initEnv as k).length = as.length
  | [], _ => rfl
  | .val d :: as, k => by simp [initEnv, initEnv_len (as := as) (k := k)]
  | .bor d :: as, k => by simp [initEnv, initEnv_len (as := as) (k := k + 1)]
theorem rs_start {I : FI} {vs : List V} {as : List Arg} {rs : List Addr} (bh : Ex B H) (nd : rs.Nodup) (h : ArgsOk K CA B H vs as rs) : RS ⟨K, CA, H, B, rs⟩ B H (L2.start I.N vs) (I.init as) := by
  obtain ⟨l1, l2⟩ := args_len h
  have get : ∀ (i : Nat) (x : SV), (I.init as).env[i]? = some (some x) → (initEnv as 0)[i]? = some (some x) := fun i x e => by
    have e : (initEnv as 0 ++ List.replicate (I.N.length - as.length) none)[i]? = some (some x) := e
    by_cases hi : i < (initEnv as 0).length
    · rw [List.getElem?_append_left hi] at e; exact e
    · rw [List.getElem?_append_right (by omega), List.getElem?_replicate] at e
      split at e <;> cases e
  have getσ : ∀ (i : Nat) (v : V), vs[i]? = some v → (L2.start I.N vs)[i]? = some (some v) := fun i v e => by
    unfold L2.start
    have hi : i < vs.length := (List.getElem?_eq_some_iff.mp e).1
    rw [List.getElem?_append_left (by simpa using hi), List.getElem?_map, e]; rfl
  refine ⟨?_, bh, nd, args_lent h, fun a o _ e => e, Evl.Ex.refl _, bh, fun a e => .inl e, l2, args_bors h, fun i x e => ?_, fun i j x y e1 e2 m1 m2 q => ?_⟩
  · show (initEnv as 0 ++ List.replicate (I.N.length - as.length) none).length = (L2.start I.N vs).length
    unfold L2.start
    rw [List.length_append, List.length_append, initEnv_len, List.length_replicate, List.length_map, List.length_replicate, l1]
  · obtain ⟨v, e1, q⟩ := args_env 0 h i x (get i x e)
    refine ⟨v, getσ i v e1, ?_⟩
    rcases q with ⟨d, rfl, r⟩ | ⟨j, p, rfl, hp, rfl⟩
    · exact r
    · exact ⟨p, by rw [Nat.zero_add]; exact hp, rfl⟩
  · have g1 := get i x e1
    have g2 := get j y e2
    obtain ⟨v, a1, b1⟩ := args_env 0 h i x g1
    obtain ⟨w, a2, b2⟩ := args_env 0 h j y g2
    rw [getσ i v a1, getσ j w a2] at q
    cases q
    rcases b1 with ⟨d, rfl, _⟩ | ⟨k1, p1, rfl, hp1, rfl⟩
    · cases m1
    rcases b2 with ⟨d, rfl, _⟩ | ⟨k2, p2, rfl, hp2, hv⟩
    · cases m2
    cases hv
    have : k1 = k2 := (List.getElem?_inj (List.getElem?_eq_some_iff.mp hp1).1 nd).mp (hp1.trans hp2.symm)
    subst this
    exact env_inj g1 g2
end
def Prog.env (P : Prog) (n : Nat) : Env := ⟨P.call n, P.sub, P.wf⟩
theorem IOk.of {P : Program} {w : World} {K : PySem.W.Frag} {mg : Str → Option Value} {base : Heap} {CA : Nat → Option Addr} {I : FI} {k : Nat} {sp : Sp} (n : I.own = .no) (h : My.FOk P w K mg base (L2.CX P w) I.name I.ps k sp) : IOk P w K mg base CA I k sp := by
  obtain ⟨f, fd, a, b, c, d, e⟩ := h
  exact ⟨f, fd, by rw [n]; exact a, b, c, d, e⟩
/-- a def that is proved by hand keeps what it says -/
def PrimOk (K : PySem.W.Frag) (mg : Str → Option Value) (CA : Nat → Option Addr) (Tb : Tab) (I : FI) (g : (Nat → List Arg → OF) → List Arg → OF) : Prop :=
  ∀ (P : Program) (w : World) (base : Heap) (Pr : Prog) (n : Nat), ExcTab K mg Tb Pr.sub CA → TabOk P w K mg base Tb n (Pr.env n) CA → IOk P w K mg base CA I (2 * (n + 1)) (spF K CA fun as => g (Pr.call n) as)
/-- the program's def, where it stands -/
structure FnAt (K : PySem.W.Frag) (mg : Str → Option Value) (CA : Nat → Option Addr) (I : FI) (st : Stmt) : Prop where
  ex : ∃ (nm q : Str) (f : Addr) (fd : FuncData), LocOf K mg CA I.own I.name f ∧ Fun K nm q st f fd ∧ Binds K fd I.ps []
theorem fnAt_no {K : PySem.W.Frag} {mg : Str → Option Value} {CA : Nat → Option Addr} {I : FI} {st : Stmt} (h : I.own = .no) (F : My.Fn K mg I.name st I.ps) : FnAt K mg CA I st := by
  obtain ⟨f, fd, g, F1, b⟩ := F.ex
  exact ⟨I.name, I.name, f, fd, by rw [h]; exact g, F1, b⟩
theorem FnAt.okX {P : Program} {w : World} {K : PySem.W.Frag} {mg : Str → Option Value} {base : Heap} {CA : Nat → Option Addr} {I : FI} {st : Stmt} {N : List Str} {k : Nat} {sp : Sp} (F : FnAt K mg CA I st) (S : FnScope N I.ps (defScope st)) (len : ∀ vs H Q E, sp vs H Q E → vs.length = I.ps.length)
    (hb : ∀ (q : Str) (f : Addr) (cdv : Value) (A : Around) (outer : List PySem.Env) (s : Shared) (H : Hp) (vs : List V) (Q : VK) (E : XK), Room k (A.deeper (envOfC q (defScope st) s.heap.objs.size f cdv)) → sp vs H Q E →
      ∃ t, PSs (cxOf (L2.CX P w) P w K mg base N q (defScope st) f cdv A outer s H E) (defBody st) t ∧ t { nx := fun _ H' => Q .non H', rt := Q } (L2.start N vs) H) : IOk P w K mg base CA I (k + 1) sp := by
  obtain ⟨nm, q, f, fd, g, F1, b⟩ := F.ex
  exact ⟨f, fd, g, F1.kp, F1.at', b, F1.okX S len (hb q f)⟩
/-- a def of the text and the program's def -/
structure FnT (K : PySem.W.Frag) (mg : Str → Option Value) (CA : Nat → Option Addr) (Tb : Tab) (I : FI) (st : Stmt) : Prop where
  fn : FnAt K mg CA I st
  sc : FnScope I.N I.ps (defScope st)
  ml : I.ms.length = I.ps.length
  ck : I.prim = none → chkCs Tb I.N (defScope st) I.body (defBody st) = true
  pr : ∀ g, I.prim = some g → PrimOk K mg CA Tb I g
theorem args_m {K : PySem.W.Frag} {CA : Nat → Option Addr} {B H : Hp} {rs : List Addr} {Q : VK} {E : XK} {En : Env} {I : FI} {as : List Arg} (hn : I.prim = none) (h : EndF K CA B H rs Q E (runF En I as)) : as.map Arg.m = I.ms ∧ EndF K CA B H rs Q E (exCs En I.body (I.init as)).fn := by
  unfold runF at h
  rw [hn] at h
  simp only at h
  split at h
  · rename_i q; exact ⟨q, h⟩
  · exact h.elim
section
variable {P : Program} {w : World} {K : PySem.W.Frag} {mg : Str → Option Value} {base : Heap} {Tb : Tab} {Pr : Prog} {CA : Nat → Option Addr}
theorem fn_body {n : Nat} {I : FI} {st : Stmt} (T : FnT K mg CA Tb I st) (ex : ExcTab K mg Tb Pr.sub CA) (ih : TabOk P w K mg base Tb n (Pr.env n) CA) :
    IOk P w K mg base CA I (2 * (n + 1)) (spF K CA fun as => runF (Pr.env n) I as) := by
  cases hpr : I.prim with
  | some g =>
    have := T.pr g hpr P w base Pr n ex ih
    have e : (fun as => runF (Pr.env n) I as) = fun as => g (Pr.call n) as := by
      funext as; unfold runF; rw [hpr]; rfl
    rw [e]; exact this
  | none =>
  have ck := T.ck hpr
  refine T.fn.okX (k := 2 * n + 1) T.sc (fun vs H Q E ⟨B, as, rs, _, _, ao, en⟩ => ?_) fun qn f cdv A outer s H vs Q E hr ⟨B, as, rs, bh, nd, ao, en⟩ => ?_
  · have hm := (args_m hpr en).1
    have := congrArg List.length hm
    rw [List.length_map, T.ml] at this
    rw [(args_len ao).1, this]
  · obtain ⟨hm, en⟩ := args_m hpr en
    refine ⟨denS K CA (fun cls d _ H => E cls d H) (exCs (Pr.env n) I.body), sCs I.body (X := cxOf (L2.CX P w) P w K mg base I.N qn (defScope st) f cdv A outer s H E) (n := n) (sc := defScope st) (Tb := Tb) (N := I.N)
      { c := { hN := rfl, nd := T.sc.nd, hsc := rfl, calm := rfl, tk := takes_of rfl rfl rfl rfl, room := hr, hfn := fun _ => rfl, tab := ih }, kind := T.sc.kind, hs := rfl, hf := rfl, po := passes_of rfl, ex := ex } _ ck, ?_⟩
    refine ⟨⟨K, CA, H, B, rs⟩, B, I.init as, rfl, rfl, rs_start bh nd ao, ?_⟩
    have aft : ∀ {σ : L2.St} {G' H' : Hp} {s1 : S}, RS ⟨K, CA, H, B, rs⟩ G' H' σ s1 → After K CA B H rs G' H' s1.bs := fun R => ⟨R.bg, R.gh, R.keep, R.fresh, R.blen, R.bors⟩
    cases hx : exCs (Pr.env n) I.body (I.init as) with
    | nx s1 => rw [hx] at en; exact fun σ G' H' x R => en _ G' H' (aft R) (.non)
    | rt v s1 =>
      rw [hx] at en
      cases v with
      | shr d => exact fun v σ G' H' x R r => en v G' H' (aft R) r.1
      | own d => exact fun v σ G' H' x R r => en v G' H' (aft R) r.1
      | bor k => exact en.elim
    | bk s1 => rw [hx] at en; exact en.elim
    | ct s1 => rw [hx] at en; exact en.elim
    | ex c p s1 =>
      rw [hx] at en
      exact fun σ G' H' cls d x R k => en cls d G' H' (aft R) (by
        cases k with
        | non a b => exact .non a b
        | dict a b c d e => exact .dict a b c d e)
    | bad => rw [hx] at en; exact en.elim
/-- the whole text -/
theorem prog_ok (hf : ∀ (f : Nat) (I : FI), Tb.fs[f]? = some I → ∃ st, FnT K mg CA Tb I st) (hc : ∀ (c : Nat) (I : CInfo), Tb.cls.lookup c = some I → ∃ C, CA c = some C ∧ ClsOk K mg C I) (hp : Pr.fs = Tb.fs) (ex : ExcTab K mg Tb Pr.sub CA) (bi : ∀ x, Tb.bi.contains x = true → mg x = none) (cs : ∀ x d, Tb.cs.lookup x = some d → ∃ v u, mg x = some u ∧ RelV v u ∧ d.v = some v) :
    ∀ n, TabOk P w K mg base Tb n (Pr.env n) CA
  | 0 => ⟨fun f I h => by
      obtain ⟨st, T⟩ := hf f I h
      obtain ⟨nm2, q2, f2, fd2, g2, F2, b2⟩ := T.fn.ex
      exact ⟨f2, fd2, g2, F2.kp, F2.at', b2, ⟨fun _ _ _ _ ⟨_, _, _, _, _, _, z⟩ => z.elim, fun _ _ _ _ _ _ _ _ _ _ _ _ _ ⟨_, _, _, _, _, _, z⟩ => z.elim⟩⟩, hc, bi, cs⟩
  | n + 1 => ⟨fun f I h => by
      obtain ⟨st, T⟩ := hf f I h
      have e : (fun as => Pr.call (n + 1) f as) = fun as => runF (Pr.env n) I as := by
        funext as
        show (match Pr.fs[f]? with | some I => runF ⟨Pr.call n, Pr.sub, Pr.wf⟩ I as | none => .bad) = _
        rw [hp, h]
        rfl
      have := fn_body T ex (prog_ok hf hc hp ex bi cs n)
      rw [← e] at this
      exact this, hc, bi, cs⟩
end
end Den
set_option Elab.async false
set_option linter.all false
set_option maxRecDepth 100000
set_option autoImplicit false
set_option maxHeartbeats 4000000
namespace Den
open PySem PySem.Spec PyProof.Rows L2
/-! ### what the top has written -/
structure DefAt (K : PySem.W.Frag) (x : Str) (st : Stmt) : Prop where
  ex : ∃ (f : Addr) (oc : Value) (od an : Option Addr) (osl : Array (Option Value)) (kV doc pm cdv ct : Value),
    PySem.W.nsIn K mainGlobals x = some (some (.ref f)) ∧ K.lookup f = some ⟨oc, od, .func (PySem.W.fnOf x x (defArgs st) (defBody st) (defScope st) .none kV doc pm an cdv ct), osl⟩ ∧ PySem.W.codeIn K cdv x = true ∧ PySem.W.keepIn K (.ref f) = true
section
variable {K : PySem.W.Frag} {mg : Str → Option Value} {h : Heap}
theorem defAt {x : Str} {st : Stmt} {f : Addr} {oc : Value} {od an : Option Addr} {osl : Array (Option Value)} {kV doc pm cdv ct : Value} (a : PySem.W.nsIn K mainGlobals x = some (some (.ref f)))
    (l : K.lookup f = some ⟨oc, od, .func (PySem.W.fnOf x x (defArgs st) (defBody st) (defScope st) .none kV doc pm an cdv ct), osl⟩) (c : PySem.W.codeIn K cdv x = true) (k : PySem.W.keepIn K (.ref f) = true) : DefAt K x st :=
  ⟨f, oc, od, an, osl, kV, doc, pm, cdv, ct, a, l, c, k⟩
/-- the parameters take the arguments in order -/
def BindP (x : Str) (st : Stmt) (ps : List Str) : Prop := ∀ (kV doc pm : Value) (an : Option Addr) (cdv ct : Value) (us : List Value), us.length = ps.length → bindArgs (PySem.W.fnOf x x (defArgs st) (defBody st) (defScope st) .none kV doc pm an cdv ct) ⟨us, []⟩ = pure (ps.zip us)
theorem DefAt.fn (X : K.In h) (G : h.Ns mainGlobals mg) {x : Str} {st : Stmt} {ps : List Str} (D : DefAt K x st) (b : BindP x st ps) : My.Fn K mg x st ps := by
  obtain ⟨f, oc, od, an, osl, kV, doc, pm, cdv, ct, a, l, c, k⟩ := D.ex
  exact My.fn_at X G a l c k b
/-- an own error class -/
structure ExcAt (K : PySem.W.Frag) (x : Str) (C : Addr) : Prop where
  a : PySem.W.nsIn K mainGlobals x = some (some (.ref C))
  ex : PySem.W.excIn K C [.type "ValueError", .type "Exception", .type "BaseException", .type "object"] "ValueError.__new__" = true
  kp : PySem.W.keepIn K (.ref C) = true
  sb : PySem.W.subIn K (.ref C) (.type "BaseException") = some true
  ty : PySem.W.typeIn K (.ref C) = some (.type "type")
  ic : PySem.W.isClsIn K C = true
  ec : ExcC K C
  ve : PySem.W.subIn K (.ref C) (.type "ValueError") = some true
  self : PySem.W.subIn K (.ref C) (.ref C) = some true
theorem exm_of' {C D : Addr} {b : Bool} (h1 : PySem.W.subIn K (.ref D) (.type "BaseException") = some true) (h2 : PySem.W.isClsIn K D = true) (h3 : PySem.W.typeIn K (.ref D) = some (.type "type")) (h4 : PySem.W.subIn K (.ref C) (.ref D) = some b) :
    PySem.W.exmOne K (.ref C) (.ref D) = some b := by
  have e1 : (PySem.W.subIn K (.ref D) (.type "BaseException") == some true) = true := by rw [h1] <;> rfl
  have e2 : ((PySem.W.clsIn K D).isSome && PySem.W.typeIn K (.ref D) == some (.type "type")) = true := by
    have h2' : (PySem.W.clsIn K D).isSome = true := h2
    rw [h2', h3] <;> rfl
  show (if (PySem.W.subIn K (.ref D) (.type "BaseException") == some true) = true then (if ((PySem.W.clsIn K D).isSome && PySem.W.typeIn K (.ref D) == some (.type "type")) = true then PySem.W.subIn K (.ref C) (.ref D) else none) else none) = some b
  rw [if_pos e1, if_pos e2]
  exact h4
theorem kit_gen {C D : Addr} {b : Bool} (h2 : PySem.W.isClsIn K D = true) (h3 : PySem.W.typeIn K (.ref D) = some (.type "type")) (h4 : PySem.W.subIn K (.ref C) (.ref D) = some b) (h5 : PySem.W.subIn K (.ref C) (.ref C) = some true) :
    PySem.W.kitOne K (.ref C) (.ref D) = some b := by
  unfold PySem.W.kitOne
  cases e : (Value.ref C == Value.ref D) with
  | true =>
    have e' : Value.ref C = Value.ref D := by simpa using e
    rw [← e', h5] at h4
    rw [if_pos rfl]; exact h4
  | false =>
    have e2 : ((PySem.W.clsIn K D).isSome && PySem.W.typeIn K (.ref D) == some (.type "type")) = true := by
      have h2' : (PySem.W.clsIn K D).isSome = true := h2
      rw [h2', h3] <;> rfl
    rw [if_neg Bool.false_ne_true]
    show (if ((PySem.W.clsIn K D).isSome && PySem.W.typeIn K (.ref D) == some (.type "type")) = true then PySem.W.subIn K (.ref C) (.ref D) else none) = some b
    rw [if_pos e2]
    exact h4
theorem kit_ve {C : Addr} (h4 : PySem.W.subIn K (.ref C) (.type "ValueError") = some true) : PySem.W.kitOne K (.ref C) (.type "ValueError") = some true := by
  unfold PySem.W.kitOne
  rw [if_neg (by intro z; cases z)]
  show (if PySem.W.kitMeta "ValueError" = true then PySem.W.subIn K (.ref C) (.type "ValueError") else none) = some true
  rw [if_pos (by decide +kernel)]
  exact h4
theorem ExcAt.cls (X : K.In h) (G : h.Ns mainGlobals mg) {x : Str} {C : Addr} (E : ExcAt K x C) : ExcClass K mg x C := ⟨PySem.W.mg_of X G E.a, E.ex, E.kp, E.sb, E.ty, E.ec, kit_ve E.ve⟩
/-- all of a list -/
inductive AllP {α : Type} (p : Nat → α → Prop) : Nat → List α → Prop
  | nil {k : Nat} : AllP p k []
  | cons {k : Nat} {x : α} {xs : List α} : p k x → AllP p (k + 1) xs → AllP p k (x :: xs)
theorem AllP.get {α : Type} {p : Nat → α → Prop} : ∀ {k : Nat} {l : List α}, AllP p k l → ∀ {i : Nat} {x : α}, l[i]? = some x → p (k + i) x
  | _, _, .nil, i, x, e => by simp at e
  | k, _, .cons h t, 0, x, e => by cases e; exact h
  | k, _, .cons h t, i + 1, x, e => by
    have := AllP.get t (i := i) (x := x) (by simpa using e)
    rw [show k + 1 + i = k + (i + 1) by omega] at this
    exact this
/-- the exception classes stand at these places -/
theorem excTab {Tb : Tab} {sub : Nat → Nat → Option Bool} {Cs : List Addr} (X : K.In h) (G : h.Ns mainGlobals mg) (hl : Tb.exs.length ≤ Cs.length) (hc : AllP (fun i x => ∀ C, Cs[i]? = some C → ExcAt K x C) 0 Tb.exs)
    (hs : ∀ c c' b, sub c c' = some b → c < Tb.exs.length ∧ c' < Tb.exs.length ∧ ∃ C C', Cs[c]? = some C ∧ Cs[c']? = some C' ∧ PySem.W.subIn K (.ref C) (.ref C') = some b) : ExcTab K mg Tb sub (fun c => Cs[c]?) where
  cls := fun c x e => by
    have hlt : c < Cs.length := Nat.lt_of_lt_of_le (List.getElem?_eq_some_iff.mp e).1 hl
    have := hc.get e Cs[c] (by rw [Nat.zero_add]; exact List.getElem?_eq_getElem hlt)
    exact ⟨Cs[c], List.getElem?_eq_getElem hlt, this.cls X G⟩
  kit := fun c c' b C C' e h1 h2 => by
    obtain ⟨lt1, lt2, D, D', q1, q2, q3⟩ := hs c c' b e
    rw [h1] at q1
    rw [h2] at q2
    cases q1
    cases q2
    have a1 := hc.get (List.getElem?_eq_getElem lt1) C (by rw [Nat.zero_add]; exact h1)
    have a2 := hc.get (List.getElem?_eq_getElem lt2) C' (by rw [Nat.zero_add]; exact h2)
    exact ⟨exm_of' a2.sb a2.ic a2.ty q3, kit_gen a2.ic a2.ty q3 a1.self⟩
  lt := fun c c' b e => by
    obtain ⟨l1, l2, _⟩ := hs c c' b e
    exact ⟨l1, l2⟩
/-! own classes -/
structure ClsAt (K : PySem.W.Frag) (x : Str) (C : Addr) : Prop where
  a : PySem.W.nsIn K mainGlobals x = some (some (.ref C))
  pg : PySem.W.plainGet K C Str.empty = true
  hd : PySem.W.hasDictIn K C = true
  po : PySem.W.plainOver K C = true
  sa : PySem.W.findIn K (.ref C) "__setattr__" = some (some (.builtin "object.__setattr__"))
  mks : PySem.W.makesIn K C = true
  kp : PySem.W.keepIn K (.ref C) = true
theorem AllP.look {β : Type} {p : Nat → Str × β → Prop} : ∀ {k : Nat} {l : List (Str × β)}, AllP p k l → ∀ {f : Str} {d : β}, l.lookup f = some d → ∃ i, p i (f, d)
  | _, _, .nil, f, d, e => by cases e
  | k, (g, b) :: r, .cons h t, f, d, e => by
    rw [List.lookup_cons] at e
    split at e
    · rename_i hb
      cases e
      have := beq_iff_eq.mp hb
      subst this
      exact ⟨k, h⟩
    · exact AllP.look t e
theorem AllP.mem {α : Type} {p : α → Prop} : ∀ {k : Nat} {l : List α}, AllP (fun _ x => p x) k l → ∀ x ∈ l, p x
  | _, _, .nil, x, h => by cases h
  | _, _, .cons h t, x, m => by
    rcases List.mem_cons.mp m with m | m
    · subst m; exact h
    · exact AllP.mem t x m
theorem ClsAt.ok (X : K.In h) (G : h.Ns mainGlobals mg) {C : Addr} {I : CInfo} (c : ClsAt K I.name C) (fl : AllP (fun _ f => PySem.W.findIn K (.ref C) f = some none) 0 I.flds) (co : AllP (fun _ q => ∃ v u, Con K C q.1 v u ∧ q.2.v = some v) 0 I.cons) : ClsOk K mg C I where
  cl := ⟨c.pg, c.hd, c.po, c.sa⟩
  fl := fun f hf => fl.mem f (List.contains_iff_mem.mp hf)
  co := fun f d e => by
    obtain ⟨_, q⟩ := co.look e
    exact q
  g := PySem.W.mg_of X G c.a
  mks := fun _ => ⟨c.mks, c.kp⟩
/-- a method, as the top has written it -/
structure MethAt (K : PySem.W.Frag) (C : Addr) (m q : Str) (st : Stmt) : Prop where
  ex : ∃ (f : Addr) (oc : Value) (od an : Option Addr) (osl : Array (Option Value)) (kV doc pm cdv ct : Value),
    PySem.W.findIn K (.ref C) m = some (some (.ref f)) ∧ PySem.W.isFn K (.ref f) = true ∧ K.lookup f = some ⟨oc, od, .func (PySem.W.fnOf m q (defArgs st) (defBody st) (defScope st) .none kV doc pm an cdv ct), osl⟩ ∧ PySem.W.codeIn K cdv q = true ∧ PySem.W.keepIn K (.ref f) = true
theorem methAt {C : Addr} {m q : Str} {st : Stmt} {f : Addr} {oc : Value} {od an : Option Addr} {osl : Array (Option Value)} {kV doc pm cdv ct : Value} (a : PySem.W.findIn K (.ref C) m = some (some (.ref f))) (i : PySem.W.isFn K (.ref f) = true)
    (l : K.lookup f = some ⟨oc, od, .func (PySem.W.fnOf m q (defArgs st) (defBody st) (defScope st) .none kV doc pm an cdv ct), osl⟩) (c : PySem.W.codeIn K cdv q = true) (k : PySem.W.keepIn K (.ref f) = true) : MethAt K C m q st :=
  ⟨f, oc, od, an, osl, kV, doc, pm, cdv, ct, a, i, l, c, k⟩
def BindQ (m q : Str) (st : Stmt) (ps : List Str) : Prop := ∀ (kV doc pm : Value) (an : Option Addr) (cdv ct : Value) (us : List Value), us.length = ps.length → bindArgs (PySem.W.fnOf m q (defArgs st) (defBody st) (defScope st) .none kV doc pm an cdv ct) ⟨us, []⟩ = pure (ps.zip us)
theorem MethAt.fn {CA : Nat → Option Addr} {c : Nat} {C : Addr} {m q : Str} {st : Stmt} {I : FI} (D : MethAt K C m q st) (hC : CA c = some C) (ho : I.own = .meth c m) (b : BindQ m q st I.ps) : FnAt K mg CA I st := by
  obtain ⟨f, oc, od, an, osl, kV, doc, pm, cdv, ct, a, i, l, cc, k⟩ := D.ex
  have F := fun_mk l cc k
  exact ⟨m, q, f, _, by rw [ho]; exact ⟨C, hC, a, i, k⟩, F, F.binds b⟩
structure StatAt (K : PySem.W.Frag) (C : Addr) (m q : Str) (st : Stmt) : Prop where
  ex : ∃ (f p : Addr) (rest : List Value) (oc : Value) (od an : Option Addr) (osl : Array (Option Value)) (kV doc pm cdv ct : Value),
    PySem.W.specialIn K (.ref C) "__getattribute__" = some (some (.builtin "type.__getattribute__")) ∧ PySem.W.readsIn K C (.type "type") = true ∧ PySem.W.findCls K (.ref C) (.type "type") m = some (.get (.builtin "staticmethod.__get__") (.ref p) .none (.ref C)) ∧ PySem.W.recIn K p "staticmethod" = some (.ref f :: rest) ∧
    K.lookup f = some ⟨oc, od, .func (PySem.W.fnOf m q (defArgs st) (defBody st) (defScope st) .none kV doc pm an cdv ct), osl⟩ ∧ PySem.W.codeIn K cdv q = true ∧ PySem.W.keepIn K (.ref f) = true
theorem statAt {C : Addr} {m q : Str} {st : Stmt} {f p : Addr} {rest : List Value} {oc : Value} {od an : Option Addr} {osl : Array (Option Value)} {kV doc pm cdv ct : Value} (g : PySem.W.specialIn K (.ref C) "__getattribute__" = some (some (.builtin "type.__getattribute__"))) (r : PySem.W.readsIn K C (.type "type") = true)
    (a : PySem.W.findCls K (.ref C) (.type "type") m = some (.get (.builtin "staticmethod.__get__") (.ref p) .none (.ref C))) (i : PySem.W.recIn K p "staticmethod" = some (.ref f :: rest))
    (l : K.lookup f = some ⟨oc, od, .func (PySem.W.fnOf m q (defArgs st) (defBody st) (defScope st) .none kV doc pm an cdv ct), osl⟩) (c : PySem.W.codeIn K cdv q = true) (k : PySem.W.keepIn K (.ref f) = true) : StatAt K C m q st :=
  ⟨f, p, rest, oc, od, an, osl, kV, doc, pm, cdv, ct, g, r, a, i, l, c, k⟩
theorem StatAt.fn {CA : Nat → Option Addr} {c : Nat} {C : Addr} {m q : Str} {st : Stmt} {I : FI} (D : StatAt K C m q st) (hC : CA c = some C) (ho : I.own = .stat c m) (b : BindQ m q st I.ps) : FnAt K mg CA I st := by
  obtain ⟨f, p, rest, oc, od, an, osl, kV, doc, pm, cdv, ct, g, r, a, i, l, cc, k⟩ := D.ex
  have F := fun_mk l cc k
  exact ⟨m, q, f, _, by rw [ho]; exact ⟨C, hC, g, .type "type", p, r, a, rest, i⟩, F, F.binds b⟩
/-! ### the end -/
def spLaw (K : PySem.W.Frag) : Sp := fun vs H Q _ => ∃ (a : Addr) (ns : List Int), vs = [.ref a] ∧ SqL K H a (ns.map V.int) ∧ ns.length ≤ 63 ∧ (∀ z ∈ ns, Builtin.Int.intBits z ≤ 1048576) ∧ ∀ H', Q (.bl true) H'
theorem law_fn {l : PySem.W.OpenLaw} {w : World} {fa : Addr} {Tb : Tab} {Pr : Prog} {CA : Nat → Option Addr} {f n : Nat} {I : FI} (X : K.In h) (G : h.Ns mainGlobals mg) (hfa : mg "law" = some (.ref fa))
    (hf : AllP (fun _ I => ∃ st, FnT K mg CA Tb I st) 0 Tb.fs) (hcl : ∀ (c : Nat) (I : CInfo), Tb.cls.lookup c = some I → ∃ C, CA c = some C ∧ ClsOk K mg C I) (hp : Pr.fs = Tb.fs) (ex : ExcTab K mg Tb Pr.sub CA) (bi : ∀ x ∈ Tb.bi, PySem.W.nsIn K mainGlobals x = some none) (cs : ∀ x d, Tb.cs.lookup x = some d → ∃ v u, mg x = some u ∧ RelV v u ∧ d.v = some v)
    (hI : Tb.fs[f]? = some I) (how : I.own = .no) (hn : I.name = "law") (hps : I.ps = [("_law_script" : Str)])
    (true_ : ∀ ns : List Int, ns.length ≤ 63 → (∀ z ∈ ns, Builtin.Int.intBits z ≤ 1048576) → Pr.call n f [.val (.frl (ns.map .int))] = .ret (.shr (.bl true)) []) (hsp : ∀ fd : FuncData, (∃ oc od osl, K.lookup fa = some ⟨oc, od, .func fd, osl⟩) → ∀ (s : Shared) (v : Value), BindsTo s fd ⟨[v], []⟩ [("_law_script", v)]) :
    ∃ fd : FuncData, (∀ (s : Shared) (v : Value), BindsTo s fd ⟨[v], []⟩ [("_law_script", v)]) ∧ ∀ base : Heap, K.In base → base.Ns mainGlobals mg → FnOk l.prog w K mg base (L2.CX l.prog w) (2 * n) fa fd ["_law_script"] (spLaw K) := by
  have bi' : ∀ x, Tb.bi.contains x = true → mg x = none := fun x hx => PySem.W.mg_none_of X G (bi x (List.contains_iff_mem.mp hx))
  have all : ∀ base, TabOk l.prog w K mg base Tb n (Pr.env n) CA := fun base => prog_ok (fun f I e => by have := hf.get e; exact this) hcl hp ex bi' cs n
  have key : ∀ base, ∃ (f' : Addr) (fd : FuncData), mg "law" = some (.ref f') ∧ (∃ oc od osl, K.lookup f' = some ⟨oc, od, .func fd, osl⟩) ∧ FnOk l.prog w K mg base (L2.CX l.prog w) (2 * n) f' fd ["_law_script"] (spLaw K) := fun base => by
    obtain ⟨f', fd, a, b, c, d, F⟩ := ((all base).fns f I hI).at how
    rw [hps] at F
    rw [hn] at a
    refine ⟨f', fd, a, c, F.imp fun vs H Q E ⟨ad, ns, e1, e2, e3, e4, q⟩ => ?_⟩
    subst e1
    have rints : ∀ ns : List Int, Reps K CA H (ns.map V.int) (ns.map D.int) := fun ns => by
      induction ns with
      | nil => exact .nil
      | cons n ns ih => exact .cons (.int n) ih
    refine ⟨H, [.val (.frl (ns.map .int))], [], Evl.Ex.refl H, List.nodup_nil, ⟨.frl e2 (rints ns), trivial⟩, ?_⟩
    show EndF K CA H H [] Q E (Pr.call n f _)
    rw [true_ ns e3 e4]
    exact fun x G' H' _ r => by cases r; exact q H'
  obtain ⟨f', fd, a, c, F⟩ := key default
  rw [hfa] at a
  cases a
  refine ⟨fd, hsp fd c, fun base _ _ => ?_⟩
  obtain ⟨f2, fd2, a2, c2, F2⟩ := key base
  rw [hfa] at a2
  cases a2
  obtain ⟨oc, od, osl, lk⟩ := c
  obtain ⟨oc2, od2, osl2, lk2⟩ := c2
  rw [lk] at lk2
  cases lk2
  exact F2
theorem cx_false {P : Program} (w : World) (H : Hp) (s : Shared) (e : Value) (s' : Shared) (h : L2.CX P w [] H s (fun _ _ _ => False) e s') : False := by
  obtain ⟨_, _, _, _, _, _, _, _, _, _, _, _, z⟩ := h
  exact z
end
end Den
set_option Elab.async false
set_option linter.all false
set_option maxRecDepth 100000
set_option autoImplicit true
namespace Den
open PySem L2
/-! ### the run, continuations by name -/
def pvK : Out SV → Out PV
  | .ok v s1 => match v.d with
    | some d => .ok (.val d) s1
    | none => .bad
  | .ex c p s => .ex c p s
  | .bad => .bad
def varP (i : Nat) (s : S) : Out PV := match s.slot i with
  | some _ => .ok (.at i) s
  | none => .bad
def evPp (E : Env) (x : X) (s : S) : Out PV := pvOf x (evX E x s) s
def opK (o : Op) : Out (List PV) → Out SV
  | .ok ps s1 => .opt s1 ((s1.looks ps).bind (opSem o))
  | .ex c p s => .ex c p s
  | .bad => .bad
def lstK : Out (List D) → Out SV
  | .ok ds s1 => if ds.length ≤ lim then .ok (.own (.lst ds)) s1 else .bad
  | .ex c p s => .ex c p s
  | .bad => .bad
def tupK : Out (List D) → Out SV
  | .ok ds s1 => if ds.length ≤ lim then .ok (.shr (.tup ds)) s1 else .bad
  | .ex c p s => .ex c p s
  | .bad => .bad
def cmp2D (E : Env) (p : Op) (y : PV) (s : S) : Out PV → Out SV
  | .ok z s3 => .opt s3 ((s3.looks [y, z]).bind (opSem p))
  | .ex c p s => .ex c p s
  | .bad => .bad
def cmp2C (E : Env) (p : Op) (c : X) (y : PV) (s : S) : Option SV → Out SV
  | some (.shr (.bl true)) => cmp2D E p y s (evPp E c s)
  | some (.shr (.bl false)) => .ok (.shr (.bl false)) s
  | _ => .bad
def cmp2B (E : Env) (o p : Op) (c : X) (x : PV) : Out PV → Out SV
  | .ok y s2 => cmp2C E p c y s2 ((s2.looks [x, y]).bind (opSem o))
  | .ex c p s => .ex c p s
  | .bad => .bad
def cmp2A (E : Env) (o p : Op) (b c : X) : Out PV → Out SV
  | .ok x s1 => cmp2B E o p c x (evPp E b s1)
  | .ex c p s => .ex c p s
  | .bad => .bad
def andK (E : Env) (b : X) : Out SV → Out SV
  | .ok (.shr (.bl c)) s1 => if c = true then evX E b s1 else .ok (.shr (.bl false)) s1
  | .ex c p s => .ex c p s
  | _ => .bad
def orK (E : Env) (b : X) : Out SV → Out SV
  | .ok (.shr (.bl c)) s1 => if c = true then .ok (.shr (.bl true)) s1 else evX E b s1
  | .ex c p s => .ex c p s
  | _ => .bad
def notK : Out SV → Out SV
  | .ok (.shr (.bl b)) s1 => .ok (.shr (.bl (!b))) s1
  | .ex c p s => .ex c p s
  | _ => .bad
def iteK (E : Env) (a b : X) : Out Bool → Out SV
  | .ok c s1 => if c = true then evX E a s1 else evX E b s1
  | .ex c p s => .ex c p s
  | .bad => .bad
def sl3C (i : Int) (p : PV) : Out PV → Out SV
  | .ok r s3 => match s3.look p, s3.look r with
      | some d, some (.int j) => .opt s3 (slS (some i) (some j) d)
      | _, _ => .bad
  | .ex c p s => .ex c p s
  | .bad => .bad
def sl3B (E : Env) (c : X) (p : PV) : Out PV → Out SV
  | .ok q s2 => match s2.look q with
    | some (.int i) => sl3C i p (evPp E c s2)
    | _ => .bad
  | .ex c p s => .ex c p s
  | .bad => .bad
def sl3A (E : Env) (b c : X) : Out PV → Out SV
  | .ok p s1 => sl3B E c p (evPp E b s1)
  | .ex c p s => .ex c p s
  | .bad => .bad
def bmB (m : BM) (p : PV) : Out (List PV) → Out SV
  | .ok ps s2 => match s2.look p, s2.looks ps with
        | some d, some ds => .opt s2 (bmSem m d ds)
        | _, _ => .bad
  | .ex c p s => .ex c p s
  | .bad => .bad
def bmA (E : Env) (m : BM) (xs : XS) : Out PV → Out SV
  | .ok p s1 => match s1.look p with
    | some d => if bmTy m d = true then bmB m p (evPs E xs s1) else .bad
    | none => .bad
  | .ex c p s => .ex c p s
  | .bad => .bad
def callK (E : Env) (f : Nat) (ms : List Bool) : Out (List PV) → Out SV
  | .ok ps s1 => callRun E f ms ps s1
  | .ex c p s => .ex c p s
  | .bad => .bad
def optS (s : S) : Option SV → Out SV
  | some v => .ok v s
  | none => .bad
def fldK (cs : List Nat) (f : Str) : Out PV → Out SV
  | .ok p s1 => optS s1 ((s1.look p).bind (fldS cs f))
  | .ex c p s => .ex c p s
  | .bad => .bad
def conK (cs : List Nat) (f : Str) (d : D) : Out PV → Out SV
  | .ok p s1 => optS s1 ((s1.look p).bind (conS cs f d))
  | .ex c p s => .ex c p s
  | .bad => .bad
def dgC (s2 : S) : Option D → Option D → Out SV
  | some d, some e => optS s2 (getS d e)
  | _, _ => .bad
def dgB (p : PV) : Out PV → Out SV
  | .ok q s2 => dgC s2 (s2.look p) (s2.look q)
  | .ex c p s => .ex c p s
  | .bad => .bad
def dgA (E : Env) (b : X) : Out PV → Out SV
  | .ok p s1 => dgB p (evPp E b s1)
  | .ex c p s => .ex c p s
  | .bad => .bad
def metC (E : Env) (f : Nat) (ms : List Bool) (p : PV) : Out (List PV) → Out SV
  | .ok ps s2 => callRun E f ms (p :: ps) s2
  | .ex c p s => .ex c p s
  | .bad => .bad
def metB (E : Env) (ms : List Bool) (p : PV) (xs : XS) (s1 : S) : Option Nat → Out SV
  | some f => metC E f ms p (evPs E xs s1)
  | none => .bad
def metA (E : Env) (m : Str) (cs : List (Nat × Nat)) (ms : List Bool) (xs : XS) : Out PV → Out SV
  | .ok p s1 => metB E ms p xs s1 ((s1.look p).bind (dispS m cs))
  | .ex c p s => .ex c p s
  | .bad => .bad
def makeK (E : Env) (c f : Nat) : Out (List PV) → Out SV
  | .ok ps s1 => makeRun E c f ps s1
  | .ex c p s => .ex c p s
  | .bad => .bad
def mutB (i : Nat) (s1 : S) : Option (D × D) → Out SV
  | some (d, r) => match s1.store i d with
        | some s2 => .ok (.shr r) s2
        | none => .bad
  | none => .bad
def mutA (m : Mu) (i : Nat) : Out (List D) → Out SV
  | .ok ds s1 => mutB i s1 ((s1.look (.at i)).bind fun d => muSem m d ds)
  | .ex c p s => .ex c p s
  | .bad => .bad
def compE (w : List Nat) : Out SV → Out (Option D)
  | .ok v s3 => match v.d with
              | some d => .ok (some d) (s3.wipe w)
              | none => .bad
  | .ex c p s => .ex c p s
  | .bad => .bad
def compT (E : Env) (e : X) (w : List Nat) : Out Bool → Out (Option D)
  | .ok c s2 => if c = true then compE w (evX E e s2) else .ok none (s2.wipe w)
  | .ex c p s => .ex c p s
  | .bad => .bad
def compG (E : Env) (t : T) (e : X) (w : List Nat) : Option S → Out (Option D)
  | none => .bad
  | some s' => compT E e w (evT E t s')
def compStep (E : Env) (w : List Nat) (tg : Tg) (t : T) (e : X) (s : S) (d : D) : Out (Option D) := compG E t e w (S.asg tg d s)
def looksB (ps : List PV) (ds : List D) (s : S) : Bool := decide (s.looks ps = some ds)
def compZ (s1 : S) (w : List Nat) : Out (List D) → Out SV
  | .ok acc s2 => .ok (.own (.lst acc)) (s1.restore s2 w)
  | .ex c p s => .ex c p s
  | .bad => .bad
def compI (E : Env) (w : List Nat) (tg : Tg) (t : T) (e : X) (ps : List PV) (ds : List D) (s1 : S) : Option (List D) → Out SV
  | none => .bad
  | some items => compZ s1 w (compRun (compStep E w tg t e) (looksB ps ds) items [] (s1.wipe w))
def compL (E : Env) (w : List Nat) (tg : Tg) (it : It) (t : T) (e : X) (ps : List PV) (s1 : S) : Option (List D) → Out SV
  | none => .bad
  | some ds => compI E w tg t e ps ds s1 (itSem it ds)
def compA (E : Env) (w : List Nat) (tg : Tg) (it : It) (t : T) (e : X) : Out (List PV) → Out SV
  | .ok ps s1 => compL E w tg it t e ps s1 (s1.looks ps)
  | .ex c p s => .ex c p s
  | .bad => .bad
def c2E (w : List Nat) : Out (List D) → Out (List D)
  | .ok acc s => .ok acc (s.wipe w)
  | .ex c p s => .ex c p s
  | .bad => .bad
def c2I (E : Env) (w vs1 : List Nat) (tg1 : Tg) (t1 : T) (e : X) (acc : List D) (ps1 : List PV) (ds1 : List D) (s3 : S) : Option (List D) → Out (List D)
  | none => .bad
  | some items1 => c2E w (compRun (compStep E vs1 tg1 t1 e) (looksB ps1 ds1) items1 acc (s3.wipe vs1))
def c2L (E : Env) (w vs1 : List Nat) (tg1 : Tg) (itb : It) (t1 : T) (e : X) (acc : List D) (ps1 : List PV) (s3 : S) : Option (List D) → Out (List D)
  | none => .bad
  | some ds1 => c2I E w vs1 tg1 t1 e acc ps1 ds1 s3 (itSem itb ds1)
def c2A (E : Env) (w vs1 : List Nat) (tg1 : Tg) (itb : It) (t1 : T) (e : X) (acc : List D) : Out (List PV) → Out (List D)
  | .ok ps1 s3 => c2L E w vs1 tg1 itb t1 e acc ps1 s3 (s3.looks ps1)
  | .ex c p s => .ex c p s
  | .bad => .bad
def c2T (E : Env) (w vs1 : List Nat) (tg1 : Tg) (itb : It) (t1 : T) (e : X) (acc : List D) : Out Bool → Out (List D)
  | .ok c s2 => if c = true then c2A E w vs1 tg1 itb t1 e acc (evIt E itb s2) else .ok acc (s2.wipe w)
  | .ex c p s => .ex c p s
  | .bad => .bad
def c2S (E : Env) (w vs1 : List Nat) (t : T) (tg1 : Tg) (itb : It) (t1 : T) (e : X) (acc : List D) : Option S → Out (List D)
  | none => .bad
  | some s' => c2T E w vs1 tg1 itb t1 e acc (evT E t s')
def comp2Step (E : Env) (w vs1 : List Nat) (tg : Tg) (t : T) (tg1 : Tg) (itb : It) (t1 : T) (e : X) (acc : List D) (s : S) (d : D) : Out (List D) := c2S E w vs1 t tg1 itb t1 e acc (S.asg tg d s)
def comp2I (E : Env) (w vs1 : List Nat) (tg : Tg) (t : T) (tg1 : Tg) (itb : It) (t1 : T) (e : X) (ps : List PV) (ds : List D) (s1 : S) : Option (List D) → Out SV
  | none => .bad
  | some items => compZ s1 w (foldRun (comp2Step E w vs1 tg t tg1 itb t1 e) (looksB ps ds) items [] (s1.wipe w))
def comp2L (E : Env) (w vs1 : List Nat) (tg : Tg) (it : It) (t : T) (tg1 : Tg) (itb : It) (t1 : T) (e : X) (ps : List PV) (s1 : S) : Option (List D) → Out SV
  | none => .bad
  | some ds => comp2I E w vs1 tg t tg1 itb t1 e ps ds s1 (itSem it ds)
def comp2A (E : Env) (w vs1 : List Nat) (tg : Tg) (it : It) (t : T) (tg1 : Tg) (itb : It) (t1 : T) (e : X) : Out (List PV) → Out SV
  | .ok ps s1 => comp2L E w vs1 tg it t tg1 itb t1 e ps s1 (s1.looks ps)
  | .ex c p s => .ex c p s
  | .bad => .bad
def psB (p : PV) : Out (List PV) → Out (List PV)
  | .ok ps s2 => .ok (p :: ps) s2
  | .ex c p s => .ex c p s
  | .bad => .bad
def psA (E : Env) (xs : XS) : Out PV → Out (List PV)
  | .ok p s1 => psB p (evPs E xs s1)
  | .ex c p s => .ex c p s
  | .bad => .bad
def msB (d : D) : Out (List D) → Out (List D)
  | .ok ds s2 => .ok (d :: ds) s2
  | .ex c p s => .ex c p s
  | .bad => .bad
def msA (E : Env) (xs : XS) : Out SV → Out (List D)
  | .ok v s1 => match v.d with
    | some d => msB d (evMs E xs s1)
    | none => .bad
  | .ex c p s => .ex c p s
  | .bad => .bad
def tIsN (n : Bool) : Out PV → Out Bool
  | .ok p s1 => .opt s1 ((s1.look p).map fun d => if n = true then !decide (d = .non) else decide (d = .non))
  | .ex c p s => .ex c p s
  | .bad => .bad
def tX : Out PV → Out Bool
  | .ok p s1 => .opt s1 ((s1.look p).bind D.truth)
  | .ex c p s => .ex c p s
  | .bad => .bad
def tBl (s : S) : Option SV → Out Bool
  | some (.shr (.bl b)) => .ok b s
  | _ => .bad
def tCmpB (o : Op) (x : PV) : Out PV → Out Bool
  | .ok y s2 => tBl s2 ((s2.looks [x, y]).bind (opSem o))
  | .ex c p s => .ex c p s
  | .bad => .bad
def tCmpA (E : Env) (o : Op) (b : X) : Out PV → Out Bool
  | .ok x s1 => tCmpB o x (evPp E b s1)
  | .ex c p s => .ex c p s
  | .bad => .bad
def t2D (p : Op) (y : PV) : Out PV → Out Bool
  | .ok z s3 => tBl s3 ((s3.looks [y, z]).bind (opSem p))
  | .ex c p s => .ex c p s
  | .bad => .bad
def t2C (E : Env) (p : Op) (c : X) (y : PV) (s : S) : Option SV → Out Bool
  | some (.shr (.bl b)) => if b = true then t2D p y (evPp E c s) else .ok false s
  | _ => .bad
def t2B (E : Env) (o p : Op) (c : X) (x : PV) : Out PV → Out Bool
  | .ok y s2 => t2C E p c y s2 ((s2.looks [x, y]).bind (opSem o))
  | .ex c p s => .ex c p s
  | .bad => .bad
def t2A (E : Env) (o p : Op) (b c : X) : Out PV → Out Bool
  | .ok x s1 => t2B E o p c x (evPp E b s1)
  | .ex c p s => .ex c p s
  | .bad => .bad
def tAndK (E : Env) (b : T) : Out Bool → Out Bool
  | .ok c s1 => if c = true then evT E b s1 else .ok false s1
  | .ex c p s => .ex c p s
  | .bad => .bad
def tOrK (E : Env) (b : T) : Out Bool → Out Bool
  | .ok c s1 => if c = true then .ok true s1 else evT E b s1
  | .ex c p s => .ex c p s
  | .bad => .bad
def tNotK : Out Bool → Out Bool
  | .ok c s1 => .ok (!c) s1
  | .ex c p s => .ex c p s
  | .bad => .bad
def it1 : Out PV → Out (List PV)
  | .ok p s1 => .ok [p] s1
  | .ex c p s => .ex c p s
  | .bad => .bad
def it2B (p : PV) : Out PV → Out (List PV)
  | .ok q s2 => .ok [p, q] s2
  | .ex c p s => .ex c p s
  | .bad => .bad
def it2 (E : Env) (b : X) : Out PV → Out (List PV)
  | .ok p s1 => it2B p (evPp E b s1)
  | .ex c p s => .ex c p s
  | .bad => .bad
/-! statements -/
def exprK : Out SV → O
  | .ok _ s1 => .nx s1
  | .ex c p s => .ex c p s
  | .bad => .bad
def setK (i : Nat) : Out SV → O
  | .ok v s1 => if i < s1.env.length then .nx (s1.put i v) else .bad
  | .ex c p s => .ex c p s
  | .bad => .bad
def setfK (i : Nat) : Out SV → O
  | .ok v s1 => match v.d with
    | some d => if i < s1.env.length then .nx (s1.put i (.shr d)) else .bad
    | none => .bad
  | .ex c p s => .ex c p s
  | .bad => .bad
def nxO : Option S → O
  | some s => .nx s
  | none => .bad
def asgK (t : Tg) : Out SV → O
  | .ok v s1 => match v.d with
    | some d => nxO (S.asg t d s1)
    | none => .bad
  | .ex c p s => .ex c p s
  | .bad => .bad
def retK : Out SV → O
  | .ok v s1 => .rt v s1
  | .ex c p s => .ex c p s
  | .bad => .bad
def sixC (i : Nat) (d : D) (s2 : S) : Option D → Option D → O
  | some (.lst xs), some (.int j) => match ixN xs.length j with
          | some n => nxO (s2.store i (.lst (xs.set n d)))
          | none => .bad
  | _, _ => .bad
def sixB (i : Nat) (d : D) : Out PV → O
  | .ok p s2 => sixC i d s2 (s2.look (.at i)) (s2.look p)
  | .ex c p s => .ex c p s
  | .bad => .bad
def sfC (i : Nat) (s1 : S) : Option D → O
  | some d2 => match s1.store i d2 with
    | some s2 => .nx s2
    | none => .bad
  | none => .bad
def sfA (c i : Nat) (f : Str) : Out SV → O
  | .ok v s1 => match v.d with
    | some d => sfC i s1 ((s1.look (.at i)).bind (sfS c f d))
    | none => .bad
  | .ex c p s => .ex c p s
  | .bad => .bad
def sixA (E : Env) (i : Nat) (k : X) : Out SV → O
  | .ok v s1 => match v.d with
    | some d => match s1.slot i with
      | some _ => sixB i d (evPp E k s1)
      | none => .bad
    | none => .bad
  | .ex c p s => .ex c p s
  | .bad => .bad
def ifK (E : Env) (a b : List C) (w : List Nat) : Out Bool → O
  | .ok c s1 => if c = true then (exCs E a s1).wipe w else (exCs E b s1).wipe w
  | .ex c p s => .ex c p s
  | .bad => .bad
def forG (E : Env) (b : List C) : Option S → O
  | none => .bad
  | some s' => exCs E b s'
def forStep (E : Env) (tg : Tg) (b : List C) (s : S) (d : D) : O := forG E b (S.asg tg d s)
def forI (E : Env) (tg : Tg) (b : List C) (w : List Nat) (ps : List PV) (ds : List D) (s1 : S) : Option (List D) → O
  | none => .bad
  | some items => forRun (forStep E tg b) (looksB ps ds) w items s1
def forL (E : Env) (tg : Tg) (it : It) (b : List C) (w : List Nat) (ps : List PV) (s1 : S) : Option (List D) → O
  | none => .bad
  | some ds => forI E tg b w ps ds s1 (itSem it ds)
def forF (E : Env) (tg : Tg) (it : It) (b : List C) (w : List Nat) : Option (List PV × S) → O
  | none => .bad
  | some (ps, s1) => forL E tg it b w ps s1 (s1.looks ps)
def forA (E : Env) (tg : Tg) (it : It) (b : List C) (w : List Nat) : Out (List PV) → O
  | .ok ps0 s0 => forF E tg it b w (s0.fixes ps0)
  | .ex c p s => .ex c p s
  | .bad => .bad
def tryH (E : Env) (c' : Nat) (p : List (Str × D)) (i : Option Nat) (h : List HC) (s1 : S) : Option Bool → O
  | some true => if (i.toList.all fun j => decide (j < s1.env.length)) = true then (exHs E.sub c' p h (s1.wipe i.toList)).wipeA i.toList else .bad
  | some false => .ex c' p s1
  | none => .bad
def tryK (E : Env) (c : Nat) (i : Option Nat) (h : List HC) : O → O
  | .ex c' p s1 => tryH E c' p i h s1 (E.sub c' c)
  | o => o
def seqK (E : Env) (cs : List C) : O → O
  | .nx s => exCs E cs s
  | o => o
variable {E : Env} {s : S}
section
@[simp] theorem k_var (i) : evX E (.var i) s = match s.slot i with
    | some (.shr d) => .ok (.shr d) s
    | some (.own d) => .ok (.shr d) (s.put i (.shr d))
    | _ => .bad := by
  unfold evX S.move
  cases s.slot i with
  | none => rfl
  | some y => cases y <;> rfl
@[simp] theorem k_int : evX E (.int i) s = .ok (.shr (.int i)) s := rfl
@[simp] theorem k_str : evX E (.str z) s = .ok (.shr (.str z)) s := rfl
@[simp] theorem k_bl : evX E (.bl b) s = .ok (.shr (.bl b)) s := rfl
@[simp] theorem k_non : evX E .non s = .ok (.shr .non) s := rfl
@[simp] theorem k_glo : evX E (.glo q_ d) s = .ok (.shr d) s := rfl
theorem bind_ite {α β : Type} (o : Out α) (f : α → S → Out β) : o.bind f = match o with | .ok a s => f a s | .ex c p s => .ex c p s | .bad => .bad := by cases o <;> rfl
@[simp] theorem k_op : evX E (.op o xs) s = opK o (evPs E xs s) := by
  show (evPs E xs s).bind _ = _
  cases evPs E xs s <;> rfl
@[simp] theorem k_lst : evX E (.lst xs) s = lstK (evMs E xs s) := by
  show (evMs E xs s).bind _ = _
  cases evMs E xs s <;> rfl
@[simp] theorem k_tup : evX E (.tup xs) s = tupK (evMs E xs s) := by
  show (evMs E xs s).bind _ = _
  cases evMs E xs s <;> rfl
@[simp] theorem k_cmp2 : evX E (.cmp2 o p a b c) s = cmp2A E o p b c (evPp E a s) := by
  show (evPp E a s).bind _ = _
  cases evPp E a s with
  | ok x s1 =>
    show (evPp E b s1).bind _ = cmp2B E o p c x (evPp E b s1)
    cases evPp E b s1 with
    | ok y s2 =>
      show (match (s2.looks [x, y]).bind (opSem o) with
        | some (.shr (.bl true)) => (evPp E c s2).bind fun z s3 => Out.opt s3 ((s3.looks [y, z]).bind (opSem p))
        | some (.shr (.bl false)) => .ok (.shr (.bl false)) s2
        | _ => .bad) = cmp2C E p c y s2 ((s2.looks [x, y]).bind (opSem o))
      generalize (s2.looks [x, y]).bind (opSem o) = r
      unfold cmp2C
      split
      · show (evPp E c s2).bind _ = _
        cases evPp E c s2 <;> rfl
      · rfl
      · rfl
    | ex c p s => rfl
    | bad => rfl
  | ex c p s => rfl
  | bad => rfl
@[simp] theorem k_and : evX E (.and a b) s = andK E b (evX E a s) := by
  show (evX E a s).bind _ = _
  cases evX E a s with
  | ok v s1 => cases v with
    | shr d => cases d <;> first | rfl | (rename_i b; cases b <;> rfl)
    | own d => rfl
    | bor d => rfl
  | ex c p s => rfl
  | bad => rfl
@[simp] theorem k_or : evX E (.or a b) s = orK E b (evX E a s) := by
  show (evX E a s).bind _ = _
  cases evX E a s with
  | ok v s1 => cases v with
    | shr d => cases d <;> first | rfl | (rename_i b; cases b <;> rfl)
    | own d => rfl
    | bor d => rfl
  | ex c p s => rfl
  | bad => rfl
@[simp] theorem k_not : evX E (.not a) s = notK (evX E a s) := by
  show (evX E a s).bind _ = _
  cases evX E a s with
  | ok v s1 => cases v with
    | shr d => cases d <;> rfl
    | own d => rfl
    | bor d => rfl
  | ex c p s => rfl
  | bad => rfl
@[simp] theorem k_ite : evX E (.ite t a b) s = iteK E a b (evT E t s) := by
  show (evT E t s).bind _ = _
  cases evT E t s <;> rfl
@[simp] theorem k_sl3 : evX E (.sl3 a b c) s = sl3A E b c (evPp E a s) := by
  show (evPp E a s).bind _ = _
  cases evPp E a s with
  | ok x s1 =>
    show (evPp E b s1).bind _ = sl3B E c x (evPp E b s1)
    cases evPp E b s1 with
    | ok y s2 =>
      show (match s2.look y with
        | some (.int i) => (evPp E c s2).bind _
        | _ => .bad) = _
      unfold sl3B
      simp only
      split
      · cases evPp E c s2 <;> rfl
      · rfl
    | ex c p s => rfl
    | bad => rfl
  | ex c p s => rfl
  | bad => rfl
@[simp] theorem k_bm : evX E (.bm m o xs) s = bmA E m xs (evPp E o s) := by
  show (evPp E o s).bind _ = _
  cases evPp E o s with
  | ok p s1 =>
    show (match s1.look p with
      | some d => if bmTy m d = true then (evPs E xs s1).bind _ else .bad
      | none => .bad) = _
    unfold bmA
    simp only
    cases s1.look p with
    | none => rfl
    | some d =>
      simp only
      split
      · cases evPs E xs s1 <;> rfl
      · rfl
  | ex c p s => rfl
  | bad => rfl
@[simp] theorem k_call : evX E (.call f ms xs) s = callK E f ms (evPs E xs s) := by
  show (evPs E xs s).bind _ = _
  cases evPs E xs s <;> rfl
@[simp] theorem k_fld : evX E (.fld cs f o) s = fldK cs f (evPp E o s) := by
  show (evPp E o s).bind _ = _
  cases evPp E o s with
  | ok p s1 => show Out.opt s1 _ = optS s1 _; cases (s1.look p).bind (fldS cs f) <;> rfl
  | ex c p s => rfl
  | bad => rfl
@[simp] theorem k_con : evX E (.con cs f d o) s = conK cs f d (evPp E o s) := by
  show (evPp E o s).bind _ = _
  cases evPp E o s with
  | ok p s1 => show Out.opt s1 _ = optS s1 _; cases (s1.look p).bind (conS cs f d) <;> rfl
  | ex c p s => rfl
  | bad => rfl
@[simp] theorem k_dget : evX E (.dget a b) s = dgA E b (evPp E a s) := by
  show (evPp E a s).bind _ = _
  cases evPp E a s with
  | ok p s1 =>
    show (evPp E b s1).bind _ = dgB p (evPp E b s1)
    cases evPp E b s1 with
    | ok q s2 =>
      show (match s2.look p, s2.look q with | some d, some e => Out.opt s2 (getS d e) | _, _ => .bad) = dgC s2 (s2.look p) (s2.look q)
      cases s2.look p with
      | none => rfl
      | some d => cases s2.look q with
        | none => rfl
        | some e => show Out.opt s2 (getS d e) = optS s2 (getS d e); cases getS d e <;> rfl
    | ex c p s => rfl
    | bad => rfl
  | ex c p s => rfl
  | bad => rfl
@[simp] theorem k_meth : evX E (.meth m cs ms o xs) s = metA E m cs ms xs (evPp E o s) := by
  show (evPp E o s).bind _ = _
  cases evPp E o s with
  | ok p s1 =>
    show (match (s1.look p).bind (dispS m cs) with | some f => (evPs E xs s1).bind fun ps s2 => callRun E f ms (p :: ps) s2 | none => .bad) = metB E ms p xs s1 ((s1.look p).bind (dispS m cs))
    cases (s1.look p).bind (dispS m cs) with
    | none => rfl
    | some f => show (evPs E xs s1).bind _ = metC E f ms p (evPs E xs s1); cases evPs E xs s1 <;> rfl
  | ex c p s => rfl
  | bad => rfl
@[simp] theorem k_scall : evX E (.scall f ms xs) s = callK E f ms (evPs E xs s) := by
  show (evPs E xs s).bind _ = _
  cases evPs E xs s <;> rfl
@[simp] theorem k_make : evX E (.make c f xs) s = makeK E c f (evPs E xs s) := by
  show (evPs E xs s).bind _ = _
  cases evPs E xs s <;> rfl
@[simp] theorem k_mut : evX E (.mut m i xs) s = match s.look (.at i) with
    | some (.lst _) => mutA m i (evMs E xs s)
    | _ => .bad := by
  show (match s.look (.at i) with
    | some (.lst _) => (evMs E xs s).bind _
    | _ => .bad) = _
  split
  · cases evMs E xs s <;> rfl
  · rfl
theorem comp_aux {w : List Nat} {ps : List PV} {s1 : S} (f : S → D → Out (Option D)) (hf : f = compStep E w tg t e) : (match s1.looks ps with
      | none => Out.bad
      | some ds => match itSem it ds with
        | none => .bad
        | some items => (compRun f (fun s => decide (s.looks ps = some ds)) items [] (s1.wipe w)).bind fun acc s2 => .ok (.own (.lst acc)) (s1.restore s2 w)) = compL E w tg it t e ps s1 (s1.looks ps) := by
  subst hf
  cases s1.looks ps with
  | none => rfl
  | some ds =>
    show (match itSem it ds with
      | none => .bad
      | some items => _) = compI E w tg t e ps ds s1 (itSem it ds)
    cases itSem it ds with
    | none => rfl
    | some items =>
      show (compRun (compStep E w tg t e) (looksB ps ds) items [] (s1.wipe w)).bind _ = compZ s1 w _
      cases compRun (compStep E w tg t e) (looksB ps ds) items [] (s1.wipe w) <;> rfl
@[simp] theorem k_comp : evX E (.comp own tg it t e) s = compA E (own.map (·.2)) tg it t e (evIt E it s) := by
  show (evIt E it s).bind _ = _
  cases evIt E it s with
  | ok ps s1 =>
    refine comp_aux _ ?_
    funext s d
    unfold compStep compG
    cases S.asg tg d s with
    | none => rfl
    | some s' =>
      simp only
      cases evT E t s' with
      | ok c s2 => cases c with
        | false => rfl
        | true => show (evX E e s2).bind _ = compE _ (evX E e s2); cases evX E e s2 <;> rfl
      | ex c p s => rfl
      | bad => rfl
  | ex c p s => rfl
  | bad => rfl
theorem fold_aux {w : List Nat} {ps : List PV} {s1 : S} (f : List D → S → D → Out (List D)) (hf : f = comp2Step E w vs1 tg t tg1 itb t1 e) : (match s1.looks ps with
      | none => Out.bad
      | some ds => match itSem it ds with
        | none => .bad
        | some items => (foldRun f (fun s => decide (s.looks ps = some ds)) items [] (s1.wipe w)).bind fun acc s2 => .ok (.own (.lst acc)) (s1.restore s2 w)) = comp2L E w vs1 tg it t tg1 itb t1 e ps s1 (s1.looks ps) := by
  subst hf
  cases s1.looks ps with
  | none => rfl
  | some ds =>
    show (match itSem it ds with
      | none => .bad
      | some items => _) = comp2I E w vs1 tg t tg1 itb t1 e ps ds s1 (itSem it ds)
    cases itSem it ds with
    | none => rfl
    | some items =>
      show (foldRun (comp2Step E w vs1 tg t tg1 itb t1 e) (looksB ps ds) items [] (s1.wipe w)).bind _ = compZ s1 w _
      cases foldRun (comp2Step E w vs1 tg t tg1 itb t1 e) (looksB ps ds) items [] (s1.wipe w) <;> rfl
theorem c2_aux {w vs1 : List Nat} {ps1 : List PV} {s3 : S} {acc : List D} (f : S → D → Out (Option D)) (hf : f = compStep E vs1 tg1 t1 e) : (match s3.looks ps1 with
      | none => Out.bad
      | some ds1 => match itSem itb ds1 with
        | none => .bad
        | some items1 => (compRun f (fun s => decide (s.looks ps1 = some ds1)) items1 acc (s3.wipe vs1)).bind fun acc' s4 => .ok acc' (s4.wipe w)) = c2L E w vs1 tg1 itb t1 e acc ps1 s3 (s3.looks ps1) := by
  subst hf
  cases s3.looks ps1 with
  | none => rfl
  | some ds1 =>
    show (match itSem itb ds1 with
      | none => .bad
      | some items1 => _) = c2I E w vs1 tg1 t1 e acc ps1 ds1 s3 (itSem itb ds1)
    cases itSem itb ds1 with
    | none => rfl
    | some items1 =>
      show (compRun (compStep E vs1 tg1 t1 e) (looksB ps1 ds1) items1 acc (s3.wipe vs1)).bind _ = c2E w _
      cases compRun (compStep E vs1 tg1 t1 e) (looksB ps1 ds1) items1 acc (s3.wipe vs1) <;> rfl
theorem step_aux {w : List Nat} {tg : Tg} {t : T} {e : X} : (fun (s : S) (d : D) => match S.asg tg d s with
          | none => Out.bad
          | some s' => (evT E t s').bind fun c s2 => if c = true then (evX E e s2).bind fun v s3 => match v.d with
              | some d => .ok (some d) (s3.wipe w)
              | none => .bad
            else .ok none (s2.wipe w)) = compStep E w tg t e := by
  funext s d
  unfold compStep compG
  cases S.asg tg d s with
  | none => rfl
  | some s' =>
    simp only
    cases evT E t s' with
    | ok c s2 => cases c with
      | false => rfl
      | true => show (evX E e s2).bind _ = compE _ (evX E e s2); cases evX E e s2 <;> rfl
    | ex c p s => rfl
    | bad => rfl
@[simp] theorem k_comp2 : evX E (.comp2 own vs1 tg it t tg1 itb t1 e) s = comp2A E (own.map (·.2)) vs1 tg it t tg1 itb t1 e (evIt E it s) := by
  show (evIt E it s).bind _ = _
  cases evIt E it s with
  | ok ps s1 =>
    refine fold_aux _ ?_
    funext acc s d
    unfold comp2Step c2S
    cases S.asg tg d s with
    | none => rfl
    | some s' =>
      simp only
      cases evT E t s' with
      | ok c s2 => cases c with
        | false => rfl
        | true =>
          show (evIt E itb s2).bind _ = c2A E _ vs1 tg1 itb t1 e acc (evIt E itb s2)
          cases evIt E itb s2 with
          | ok ps1 s3 => exact c2_aux _ step_aux
          | ex c p s => rfl
          | bad => rfl
      | ex c p s => rfl
      | bad => rfl
  | ex c p s => rfl
  | bad => rfl
/-! operands -/
@[simp] theorem p_var (i) : evPp E (.var i) s = match s.slot i with
    | some _ => .ok (.at i) s
    | none => .bad := rfl
theorem pvOf_K {x : X} (h : ∀ i, x ≠ .var i) : evPp E x s = pvK (evX E x s) := by
  unfold evPp
  cases x <;> first | (exact absurd rfl (h _)) | rfl | (show (evX E _ s).bind _ = _; cases evX E _ s <;> rfl)
@[simp] theorem p_int : evPp E (.int i) s = .ok (.val (.int i)) s := rfl
@[simp] theorem p_str : evPp E (.str i) s = .ok (.val (.str i)) s := rfl
@[simp] theorem p_bl : evPp E (.bl i) s = .ok (.val (.bl i)) s := rfl
@[simp] theorem p_non : evPp E .non s = .ok (.val .non) s := rfl
@[simp] theorem p_glo : evPp E (.glo q_ d) s = .ok (.val d) s := rfl
@[simp] theorem p_op : evPp E (.op o xs) s = pvK (opK o (evPs E xs s)) := by rw [pvOf_K (by intro _ h; cases h), k_op]
@[simp] theorem p_lst : evPp E (.lst xs) s = pvK (lstK (evMs E xs s)) := by rw [pvOf_K (by intro _ h; cases h), k_lst]
@[simp] theorem p_tup : evPp E (.tup xs) s = pvK (tupK (evMs E xs s)) := by rw [pvOf_K (by intro _ h; cases h), k_tup]
@[simp] theorem p_cmp2 : evPp E (.cmp2 o p a b c) s = pvK (cmp2A E o p b c (evPp E a s)) := by rw [pvOf_K (by intro _ h; cases h), k_cmp2]
@[simp] theorem p_and : evPp E (.and a b) s = pvK (andK E b (evX E a s)) := by rw [pvOf_K (by intro _ h; cases h), k_and]
@[simp] theorem p_or : evPp E (.or a b) s = pvK (orK E b (evX E a s)) := by rw [pvOf_K (by intro _ h; cases h), k_or]
@[simp] theorem p_not : evPp E (.not a) s = pvK (notK (evX E a s)) := by rw [pvOf_K (by intro _ h; cases h), k_not]
@[simp] theorem p_ite : evPp E (.ite t a b) s = pvK (iteK E a b (evT E t s)) := by rw [pvOf_K (by intro _ h; cases h), k_ite]
@[simp] theorem p_sl3 : evPp E (.sl3 a b c) s = pvK (sl3A E b c (evPp E a s)) := by rw [pvOf_K (by intro _ h; cases h), k_sl3]
@[simp] theorem p_bm : evPp E (.bm m o xs) s = pvK (bmA E m xs (evPp E o s)) := by rw [pvOf_K (by intro _ h; cases h), k_bm]
@[simp] theorem p_call : evPp E (.call f ms xs) s = pvK (callK E f ms (evPs E xs s)) := by rw [pvOf_K (by intro _ h; cases h), k_call]
@[simp] theorem p_fld : evPp E (.fld cs f o) s = pvK (fldK cs f (evPp E o s)) := by rw [pvOf_K (by intro _ h; cases h), k_fld]
@[simp] theorem p_con : evPp E (.con cs f d o) s = pvK (conK cs f d (evPp E o s)) := by rw [pvOf_K (by intro _ h; cases h), k_con]
@[simp] theorem p_dget : evPp E (.dget a b) s = pvK (dgA E b (evPp E a s)) := by rw [pvOf_K (by intro _ h; cases h), k_dget]
@[simp] theorem p_meth : evPp E (.meth m cs ms o xs) s = pvK (metA E m cs ms xs (evPp E o s)) := by rw [pvOf_K (by intro _ h; cases h), k_meth]
@[simp] theorem p_scall : evPp E (.scall f ms xs) s = pvK (callK E f ms (evPs E xs s)) := by rw [pvOf_K (by intro _ h; cases h), k_scall]
@[simp] theorem p_make : evPp E (.make c f xs) s = pvK (makeK E c f (evPs E xs s)) := by rw [pvOf_K (by intro _ h; cases h), k_make]
@[simp] theorem p_mut : evPp E (.mut m i xs) s = pvK (match s.look (.at i) with
    | some (.lst _) => mutA m i (evMs E xs s)
    | _ => .bad) := by rw [pvOf_K (by intro _ h; cases h), k_mut]
@[simp] theorem p_comp : evPp E (.comp own tg it t e) s = pvK (compA E (own.map (·.2)) tg it t e (evIt E it s)) := by rw [pvOf_K (by intro _ h; cases h), k_comp]
@[simp] theorem p_comp2 : evPp E (.comp2 own vs1 tg it t tg1 itb t1 e) s = pvK (comp2A E (own.map (·.2)) vs1 tg it t tg1 itb t1 e (evIt E it s)) := by rw [pvOf_K (by intro _ h; cases h), k_comp2]
@[simp] theorem ps_nil : evPs E .nil s = .ok [] s := rfl
@[simp] theorem ps_cons : evPs E (.cons x xs) s = psA E xs (evPp E x s) := by
  show (evPp E x s).bind _ = _
  cases evPp E x s with
  | ok p s1 => show (evPs E xs s1).bind _ = psB p (evPs E xs s1); cases evPs E xs s1 <;> rfl
  | ex c p s => rfl
  | bad => rfl
@[simp] theorem ms_nil : evMs E .nil s = .ok [] s := rfl
@[simp] theorem ms_cons : evMs E (.cons x xs) s = msA E xs (evX E x s) := by
  show (evX E x s).bind _ = _
  cases evX E x s with
  | ok v s1 =>
    show (match v.d with | some d => (evMs E xs s1).bind _ | none => .bad) = msA E xs (.ok v s1)
    unfold msA
    simp only
    cases v.d with
    | none => rfl
    | some d => show (evMs E xs s1).bind _ = msB d (evMs E xs s1); cases evMs E xs s1 <;> rfl
  | ex c p s => rfl
  | bad => rfl
/-! tests -/
@[simp] theorem t_tru : evT E .tru s = .ok true s := rfl
@[simp] theorem t_isNk : evT E (.isN n a) s = tIsN n (evPp E a s) := by show (evPp E a s).bind _ = _; cases evPp E a s <;> rfl
@[simp] theorem t_xk : evT E (.x e) s = tX (evPp E e s) := by show (evPp E e s).bind _ = _; cases evPp E e s <;> rfl
@[simp] theorem t_cmpk : evT E (.cmp o a b) s = tCmpA E o b (evPp E a s) := by
  show (evPp E a s).bind _ = _
  cases evPp E a s with
  | ok x s1 =>
    show (evPp E b s1).bind _ = tCmpB o x (evPp E b s1)
    cases evPp E b s1 with
    | ok y s2 =>
      show (match (s2.looks [x, y]).bind (opSem o) with
        | some (.shr (.bl b)) => Out.ok b s2
        | _ => .bad) = tBl s2 ((s2.looks [x, y]).bind (opSem o))
      unfold tBl
      rfl
    | ex c p s => rfl
    | bad => rfl
  | ex c p s => rfl
  | bad => rfl
@[simp] theorem t_cmp2k : evT E (.cmp2 o p a b c) s = t2A E o p b c (evPp E a s) := by
  show (evPp E a s).bind _ = _
  cases evPp E a s with
  | ok x s1 =>
    show (evPp E b s1).bind _ = t2B E o p c x (evPp E b s1)
    cases evPp E b s1 with
    | ok y s2 =>
      show (match (s2.looks [x, y]).bind (opSem o) with
        | some (.shr (.bl true)) => (evPp E c s2).bind fun z s3 => match (s3.looks [y, z]).bind (opSem p) with
          | some (.shr (.bl b)) => Out.ok b s3
          | _ => .bad
        | some (.shr (.bl false)) => .ok false s2
        | _ => .bad) = t2C E p c y s2 ((s2.looks [x, y]).bind (opSem o))
      generalize (s2.looks [x, y]).bind (opSem o) = r
      unfold t2C
      split
      · show (evPp E c s2).bind _ = t2D p y (evPp E c s2)
        cases evPp E c s2 <;> rfl
      · rfl
      · rename_i h1 h2
        split
        · rename_i b; cases b with
          | true => exact absurd rfl h1
          | false => exact absurd rfl h2
        · rfl
    | ex c p s => rfl
    | bad => rfl
  | ex c p s => rfl
  | bad => rfl
@[simp] theorem t_andk : evT E (.and a b) s = tAndK E b (evT E a s) := by show (evT E a s).bind _ = _; cases evT E a s <;> rfl
@[simp] theorem t_ork : evT E (.or a b) s = tOrK E b (evT E a s) := by show (evT E a s).bind _ = _; cases evT E a s <;> rfl
@[simp] theorem t_notk : evT E (.not a) s = tNotK (evT E a s) := by show (evT E a s).bind _ = _; cases evT E a s <;> rfl
@[simp] theorem i_seq : evIt E (.seq e) s = it1 (evPp E e s) := by show (evPp E e s).bind _ = _; cases evPp E e s <;> rfl
@[simp] theorem i_rng : evIt E (.rng e) s = it1 (evPp E e s) := by show (evPp E e s).bind _ = _; cases evPp E e s <;> rfl
@[simp] theorem i_enum : evIt E (.enum e) s = it1 (evPp E e s) := by show (evPp E e s).bind _ = _; cases evPp E e s <;> rfl
@[simp] theorem i_enums : evIt E (.enums e z) s = it1 (evPp E e s) := by show (evPp E e s).bind _ = _; cases evPp E e s <;> rfl
@[simp] theorem i_rev : evIt E (.rev e) s = it1 (evPp E e s) := by show (evPp E e s).bind _ = _; cases evPp E e s <;> rfl
@[simp] theorem i_rng2 : evIt E (.rng2 a b) s = it2 E b (evPp E a s) := by
  show (evPp E a s).bind _ = _
  cases evPp E a s with
  | ok x s1 => show (evPp E b s1).bind _ = it2B x (evPp E b s1); cases evPp E b s1 <;> rfl
  | ex c p s => rfl
  | bad => rfl
@[simp] theorem i_zip : evIt E (.zip a b) s = it2 E b (evPp E a s) := by
  show (evPp E a s).bind _ = _
  cases evPp E a s with
  | ok x s1 => show (evPp E b s1).bind _ = it2B x (evPp E b s1); cases evPp E b s1 <;> rfl
  | ex c p s => rfl
  | bad => rfl
/-! statements -/
@[simp] theorem c_pass : exC E .pass s = .nx s := rfl
@[simp] theorem c_brk : exC E .brk s = .bk s := rfl
@[simp] theorem c_cont : exC E .cont s = .ct s := rfl
@[simp] theorem c_expr : exC E (.expr e) s = exprK (evX E e s) := by show (evX E e s).to _ = _; cases evX E e s <;> rfl
@[simp] theorem c_set : exC E (.set i e) s = setK i (evX E e s) := by show (evX E e s).to _ = _; cases evX E e s <;> rfl
@[simp] theorem c_setf : exC E (.setf i e) s = setfK i (evX E e s) := by show (evX E e s).to _ = _; cases evX E e s <;> rfl
@[simp] theorem c_asg : exC E (.asg t e) s = asgK t (evX E e s) := by
  show (evX E e s).to _ = _
  cases evX E e s with
  | ok v s1 =>
    show (match v.d with | some d => (match S.asg t d s1 with | some s2 => O.nx s2 | none => .bad) | none => .bad) = asgK t (.ok v s1)
    unfold asgK
    simp only
    cases v.d with
    | none => rfl
    | some d => simp only; cases S.asg t d s1 <;> rfl
  | ex c p s => rfl
  | bad => rfl
@[simp] theorem c_retn : exC E .retn s = .rt (.shr .non) s := rfl
@[simp] theorem c_ret : exC E (.ret e) s = retK (evX E e s) := by show (evX E e s).to _ = _; cases evX E e s <;> rfl
@[simp] theorem c_retv : exC E (.retv i) s = match s.slot i with
    | some (.own d) => .rt (.own d) (s.wipe [i])
    | some (.shr d) => .rt (.shr d) s
    | _ => .bad := rfl
@[simp] theorem c_setix : exC E (.setix i k e) s = sixA E i k (evX E e s) := by
  show (evX E e s).to _ = _
  cases evX E e s with
  | ok v s1 =>
    show (match v.d with
      | some d => match s1.slot i with
        | some _ => (evPp E k s1).to _
        | none => .bad
      | none => .bad) = sixA E i k (.ok v s1)
    unfold sixA
    simp only
    cases v.d with
    | none => rfl
    | some d =>
      simp only
      cases s1.slot i with
      | none => rfl
      | some y =>
        show (evPp E k s1).to _ = sixB i d (evPp E k s1)
        cases evPp E k s1 with
        | ok p s2 =>
          show (match s2.look (.at i), s2.look p with
            | some (.lst xs), some (.int j) => match ixN xs.length j with
              | some n => match s2.store i (.lst (xs.set n d)) with
                | some s3 => O.nx s3
                | none => .bad
              | none => .bad
            | _, _ => .bad) = sixC i d s2 (s2.look (.at i)) (s2.look p)
          unfold sixC
          split
          · split
            · rename_i n hn
              cases s2.store i _ <;> rfl
            · rfl
          · rfl
        | ex c p s => rfl
        | bad => rfl
  | ex c p s => rfl
  | bad => rfl
theorem sf_aux (c i : Nat) (f : Str) (d : D) (s1 : S) : (match (s1.look (.at i)).bind (sfS c f d) with | some d2 => (match s1.store i d2 with | some s2 => O.nx s2 | none => .bad) | none => .bad) = sfC i s1 ((s1.look (.at i)).bind (sfS c f d)) := by
  cases (s1.look (.at i)).bind (sfS c f d) <;> rfl
@[simp] theorem c_setfld : exC E (.setfld c i f e) s = sfA c i f (evX E e s) := by
  show (evX E e s).to _ = _
  cases evX E e s with
  | ok v s1 =>
    cases v with
    | shr d => exact sf_aux c i f d s1
    | own d => exact sf_aux c i f d s1
    | bor k => rfl
  | ex c p s => rfl
  | bad => rfl
@[simp] theorem c_iff : exC E (.iff t a b w) s = ifK E a b w (evT E t s) := by
  show (evT E t s).to _ = _
  cases evT E t s with
  | ok c s1 => cases c <;> rfl
  | ex c p s => rfl
  | bad => rfl
theorem for_aux {w : List Nat} {s0 : S} {ps0 : List PV} (f : S → D → O) (hf : f = forStep E tg b) : (match s0.fixes ps0 with
      | none => O.bad
      | some (ps, s1) => match s1.looks ps with
        | none => .bad
        | some ds => match itSem it ds with
          | none => .bad
          | some items => forRun f (fun s => decide (s.looks ps = some ds)) w items s1) = forF E tg it b w (s0.fixes ps0) := by
  subst hf
  cases s0.fixes ps0 with
  | none => rfl
  | some r =>
    obtain ⟨ps, s1⟩ := r
    show (match s1.looks ps with
      | none => .bad
      | some ds => _) = forL E tg it b w ps s1 (s1.looks ps)
    cases s1.looks ps with
    | none => rfl
    | some ds =>
      show (match itSem it ds with
        | none => .bad
        | some items => _) = forI E tg b w ps ds s1 (itSem it ds)
      cases itSem it ds <;> rfl
@[simp] theorem c_for : exC E (.for tg it b w) s = forA E tg it b w (evIt E it s) := by
  show (evIt E it s).to _ = _
  cases evIt E it s with
  | ok ps0 s0 =>
    refine for_aux _ ?_
    funext s d
    unfold forStep forG
    cases S.asg tg d s <;> rfl
  | ex c p s => rfl
  | bad => rfl
@[simp] theorem c_while : exC E (.while t b w) s = whileRun (evT E t) (exCs E b) w E.wf s := rfl
@[simp] theorem c_raise : exC E (.raise c) s = .ex c [] s := rfl
@[simp] theorem c_try : exC E (.try1 b c i h w) s = (tryK E c i h (exCs E b s)).wipe w := by
  show O.wipe w _ = _
  cases exCs E b s with
  | ex c' p s1 =>
    show O.wipe w (match E.sub c' c with
      | some true => _
      | some false => .ex c' p s1
      | none => .bad) = O.wipe w (tryH E c' p i h s1 (E.sub c' c))
    cases E.sub c' c with
    | none => rfl
    | some r => cases r <;> rfl
  | _ => rfl
@[simp] theorem cs_nil : exCs E [] s = .nx s := rfl
@[simp] theorem cs_cons : exCs E (c :: cs) s = seqK E cs (exC E c s) := by
  show (exC E c s).bind _ = _
  cases exC E c s <;> rfl
end
end Den
set_option Elab.async false
set_option linter.all false
set_option maxRecDepth 100000
set_option autoImplicit true
namespace Den
open PySem L2
@[simp] theorem addS_s0 : addS  (.int i) (.int j) = some (.shr (.int (i + j))) := rfl
@[simp] theorem addS_s1 : addS  (.str i) (.str j) = if i.length + j.length ≤ lim then some (.shr (.str (i ++ j))) else none := rfl
@[simp] theorem addS_s2 : addS  (.lst i) (.lst j) = if i.length + j.length ≤ lim then some (.own (.lst (i ++ j))) else none := rfl
@[simp] theorem addS_s3 : addS  (.tup i) (.tup j) = if i.length + j.length ≤ lim then some (.shr (.tup (i ++ j))) else none := rfl
@[simp] theorem mulS_s0 : mulS  (.int i) (.int j) = if mulG i j = true then some (.shr (.int (i * j))) else none := rfl
@[simp] theorem mulS_s1 : mulS  (.str z) (.int k) = if 0 ≤ k ∧ k ≤ 1000 ∧ z.length ≤ 1000 then some (.shr (.str (Txt.mul z k))) else none := rfl
@[simp] theorem ixS_s0 : ixS  (.lst xs) (.int i) = (ixI xs i).map .shr := rfl
@[simp] theorem ixS_s1 : ixS  (.tup xs) (.int i) = (ixI xs i).map .shr := rfl
@[simp] theorem ixS_s2 : ixS  (.str z) (.int i) = if z.length ≤ lim then (ixI z.cps.toList i).map fun c => .shr (.str ⟨#[c]⟩) else none := rfl
@[simp] theorem lenS_s0 : lenS  (.lst xs) = some (.shr (.int xs.length)) := rfl
@[simp] theorem lenS_s1 : lenS  (.tup xs) = some (.shr (.int xs.length)) := rfl
@[simp] theorem lenS_s2 : lenS  (.str z) = if z.length ≤ lim then some (.shr (.int z.length)) else none := rfl
@[simp] theorem ltS_s0 : ltS  (.int i) (.int j) = some (decide (i < j)) := rfl
@[simp] theorem ltS_s1 : ltS  (.str i) (.str j) = some (decide (i.cps.toList < j.cps.toList)) := rfl
@[simp] theorem leS_s0 : leS  (.int i) (.int j) = some (decide (i ≤ j)) := rfl
@[simp] theorem leS_s1 : leS  (.str i) (.str j) = some (!decide (j.cps.toList < i.cps.toList)) := rfl
@[simp] theorem tupS_s0 : tupS  (.lst xs) = some (.shr (.tup xs)) := rfl
@[simp] theorem tupS_s1 : tupS  (.tup xs) = some (.shr (.tup xs)) := rfl
@[simp] theorem lstS_s0 : lstS  (.lst xs) = some (.own (.lst xs)) := rfl
@[simp] theorem lstS_s1 : lstS  (.tup xs) = some (.own (.lst xs)) := rfl
@[simp] theorem idxS_s0 : idxS  (.lst xs) d = if ((d.flat && xs.all D.flat) || (d.okq && (D.lst xs).okq)) = true then (xs.findIdx? fun y => D.eqv y d).map fun k => .shr (.int (k : Nat)) else none := rfl
@[simp] theorem blO_s0 : blO  (some b) = some (.shr (.bl b)) := rfl
@[simp] theorem blO_s1 : blO  none = none := rfl
@[simp] theorem nblO_s0 : nblO  (some b) = some (.shr (.bl (!b))) := rfl
@[simp] theorem nblO_s1 : nblO  none = none := rfl
@[simp] theorem sortS_s0 : sortS  (.lst xs) = (D.ints xs).map fun is => .own (.lst ((msort is).map .int)) := rfl
@[simp] theorem sortS_s1 : sortS  (.tup xs) = (D.ints xs).map fun is => .own (.lst ((msort is).map .int)) := rfl
@[simp] theorem opSem_s0 : opSem  (.add) [d, e] = addS d e := rfl
@[simp] theorem opSem_s1 : opSem  (.sub) [.int i, .int j] = some (.shr (.int (i - j))) := rfl
@[simp] theorem opSem_s2 : opSem  (.mul) [d, e] = mulS d e := rfl
@[simp] theorem opSem_s3 : opSem  (.fdiv) [.int i, .int j] = if divG j = true then some (.shr (.int (i / j))) else none := rfl
@[simp] theorem opSem_s4 : opSem  (.mod) [.int i, .int j] = if 0 < j then some (.shr (.int (i % j))) else none := rfl
@[simp] theorem opSem_s5 : opSem  (.pow) [.int i, .int j] = if 0 ≤ j ∧ j ≤ 1000 ∧ i.natAbs < 2 ^ 64 then some (.shr (.int (i ^ j.toNat))) else none := rfl
@[simp] theorem opSem_s6 : opSem  (.band) [.int i, .int j] = some (.shr (.int (Builtin.bitAnd i j))) := rfl
@[simp] theorem opSem_s7 : opSem  (.shr) [.int i, .int j] = if 0 ≤ j then some (.shr (.int (i / 2 ^ j.toNat))) else none := rfl
@[simp] theorem opSem_s8 : opSem  (.neg) [.int i] = some (.shr (.int (-i))) := rfl
@[simp] theorem opSem_s9 : opSem  (.eq) [d, e] = blO (D.eqq d e) := rfl
@[simp] theorem opSem_s10 : opSem  (.ne) [d, e] = nblO (D.eqq d e) := rfl
@[simp] theorem opSem_s11 : opSem  (.lt) [d, e] = blO (ltS d e) := rfl
@[simp] theorem opSem_s12 : opSem  (.le) [d, e] = blO (leS d e) := rfl
@[simp] theorem opSem_s13 : opSem  (.gt) [d, e] = blO (ltS e d) := rfl
@[simp] theorem opSem_s14 : opSem  (.ge) [d, e] = blO (leS e d) := rfl
@[simp] theorem opSem_s15 : opSem  (.isin) [d, e] = blO (inS d e) := rfl
@[simp] theorem opSem_s16 : opSem  (.notin) [d, e] = nblO (inS d e) := rfl
@[simp] theorem opSem_s17 : opSem  (.isN) [d] = some (.shr (.bl (decide (d = .non)))) := rfl
@[simp] theorem opSem_s18 : opSem  (.isnN) [d] = some (.shr (.bl (!decide (d = .non)))) := rfl
@[simp] theorem opSem_s19 : opSem  (.ix) [d, e] = ixS d e := rfl
@[simp] theorem opSem_s20 : opSem  (.sl false false) [d] = slS none none d := rfl
@[simp] theorem opSem_s21 : opSem  (.sl true false) [d, .int i] = slS (some i) none d := rfl
@[simp] theorem opSem_s22 : opSem  (.sl false true) [d, .int j] = slS none (some j) d := rfl
@[simp] theorem opSem_s23 : opSem  (.rev) [.lst xs] = some (.own (.lst xs.reverse)) := rfl
@[simp] theorem opSem_s24 : opSem  (.lrg) [.int n] = if -1000000 ≤ n ∧ n ≤ 1000000 then some (.own (.lst ((List.range n.toNat).map fun k : Nat => D.int k))) else none := rfl
@[simp] theorem opSem_s25 : opSem  (.trg) [.int n] = if -1000000 ≤ n ∧ n ≤ 1000000 then some (.shr (.tup ((List.range n.toNat).map fun k : Nat => D.int k))) else none := rfl
@[simp] theorem opSem_s26 : opSem  (.len) [d] = lenS d := rfl
@[simp] theorem opSem_s27 : opSem  (.int1) [.int i] = some (.shr (.int i)) := rfl
@[simp] theorem opSem_s28 : opSem  (.str1) [.int i] = if i.natAbs.log2 < 1920 then some (.shr (.str (toString i))) else none := rfl
@[simp] theorem opSem_s29 : opSem  (.tuple) [d] = tupS d := rfl
@[simp] theorem opSem_s30 : opSem  (.list) [d] = lstS d := rfl
@[simp] theorem opSem_s31 : opSem  (.sorted) [d] = sortS d := rfl
@[simp] theorem opSem_s32 : opSem  (.all) [.lst xs] = (D.bls xs).map fun bs => .shr (.bl (bs.all id)) := rfl
@[simp] theorem opSem_s33 : opSem  (.any) [.lst xs] = (D.bls xs).map fun bs => .shr (.bl (bs.any id)) := rfl
@[simp] theorem opSem_s34 : opSem  (.sum) [.lst xs] = (D.ints xs).map fun is => .shr (.int is.sum) := rfl
@[simp] theorem opSem_s35 : opSem  (.max2) [.int i, .int j] = some (.shr (.int (if j > i then j else i))) := rfl
@[simp] theorem opSem_s36 : opSem  (.min2) [.int i, .int j] = some (.shr (.int (if j < i then j else i))) := rfl
@[simp] theorem opSem_s37 : opSem  (.divmod) [.int i, .int j] = if divG j = true then some (.shr (.tup [.int (i / j), .int (i % j)])) else none := rfl
@[simp] theorem opSem_s38 : opSem  (.isinst [t]) [d] = blO (isD d t) := rfl
@[simp] theorem bmTy_s0 : bmTy  (.index) (.lst q1_) = true := rfl
@[simp] theorem bmSem_s0 : bmSem  (.index) d [e] = idxS d e := rfl
@[simp] theorem itSem_s0 : itSem  (.seq q1_) [.lst xs] = some xs := rfl
@[simp] theorem itSem_s1 : itSem  (.seq q1_) [.tup xs] = some xs := rfl
@[simp] theorem itSem_s2 : itSem  (.seq q1_) [.frl xs] = some xs := rfl
@[simp] theorem itSem_s3 : itSem  (.seq q1_) [.str z] = some (z.cps.toList.map fun c => .str ⟨#[c]⟩) := rfl
@[simp] theorem itSem_s4 : itSem  (.rng q1_) [.int n] = if -(2 ^ 62) ≤ n ∧ n < 2 ^ 62 then some ((List.range n.toNat).map fun k => .int (k : Nat)) else none := rfl
@[simp] theorem itSem_s5 : itSem  (.rng2 q1_ q2_) [.int a, .int n] = if -(2 ^ 62) ≤ a ∧ a < 2 ^ 62 ∧ -(2 ^ 62) ≤ n ∧ n < 2 ^ 62 then some ((List.range (n - a).toNat).map fun k => .int (a + (k : Nat))) else none := rfl
@[simp] theorem itSem_s6 : itSem  (.enum q1_) [.lst xs] = some (xs.zipIdx.map fun p => .tup [.int p.2, p.1]) := rfl
@[simp] theorem itSem_s7 : itSem  (.enum q1_) [.tup xs] = some (xs.zipIdx.map fun p => .tup [.int p.2, p.1]) := rfl
@[simp] theorem itSem_s8 : itSem  (.enums q1_ k) [.lst xs] = some (xs.zipIdx.map fun p => .tup [.int (k + p.2), p.1]) := rfl
@[simp] theorem itSem_s9 : itSem  (.enums q1_ k) [.tup xs] = some (xs.zipIdx.map fun p => .tup [.int (k + p.2), p.1]) := rfl
@[simp] theorem itSem_s10 : itSem  (.zip q1_ q2_) [.lst xs, .lst ys] = some ((xs.zip ys).map fun p => .tup [p.1, p.2]) := rfl
@[simp] theorem itSem_s11 : itSem  (.zip q1_ q2_) [.tup xs, .tup ys] = some ((xs.zip ys).map fun p => .tup [p.1, p.2]) := rfl
@[simp] theorem itSem_s12 : itSem  (.rev q1_) [.lst xs] = some xs.reverse := rfl
@[simp] theorem itSem_s13 : itSem  (.rev q1_) [.tup xs] = some xs.reverse := rfl
@[simp] theorem muSem_s0 : muSem  (.append) (.lst xs) [d] = if xs.length < lim then some (.lst (xs ++ [d]), .non) else none := rfl
@[simp] theorem muSem_s1 : muSem  (.reverse) (.lst xs) [] = some (.lst xs.reverse, .non) := rfl
@[simp] theorem muSem_s2 : muSem  (.clear) (.lst q1_) [] = some (.lst [], .non) := rfl
@[simp] theorem muSem_s3 : muSem  (.pop) (.lst xs) [] = (xs.getLast?).map fun d => (.lst xs.dropLast, d) := rfl
@[simp] theorem muSem_s4 : muSem  (.popat) (.lst xs) [.int i] = if 0 ≤ i ∧ i < xs.length ∧ i < 2 ^ 62 then (xs[i.toNat]?).map fun d => (.lst (xs.eraseIdx i.toNat), d) else none := rfl
@[simp] theorem muSem_s5 : muSem  (.insert) (.lst xs) [.int i, d] = if 0 ≤ i ∧ i ≤ xs.length ∧ xs.length < lim then some (.lst (xs.insertIdx i.toNat d), .non) else none := rfl
@[simp] theorem muSem_s6 : muSem  (.extend) (.lst xs) [.lst ys] = if xs.length + ys.length ≤ lim then some (.lst (xs ++ ys), .non) else none := rfl
@[simp] theorem getS_s0 : getS  (.dic ks vs) d = if d.key = true then (lookD d ks vs).map .shr else none := rfl
@[simp] theorem fldS_s0 : fldS cs f (.obj c ns vs) = if cs.contains c = true then (lookF f ns vs).map .shr else none := rfl
@[simp] theorem conS_s0 : conS cs f d (.obj c ns q1_) = if cs.contains c = true ∧ ns.contains f = false ∧ d.flat = true then some (.shr d) else none := rfl
@[simp] theorem sfS_s0 : sfS c f d (.obj c' ns vs) = if c' = c ∧ ns.length = vs.length ∧ ns.length < 1000 then some (.obj c (putFN f ns) (putFV f d ns vs)) else none := rfl
@[simp] theorem dispS_s0 : dispS m cs (.obj c ns q1_) = if ns.contains m = true then none else cs.lookup c := rfl
@[simp] theorem D_truth_s0 : D.truth  (.non) = some false := rfl
@[simp] theorem D_truth_s1 : D.truth  (.bl b) = some b := rfl
@[simp] theorem D_truth_s2 : D.truth  (.int i) = some (i != 0) := rfl
@[simp] theorem D_truth_s3 : D.truth  (.str s) = if s.length ≤ lim then some ((s.length : Int) != 0) else none := rfl
@[simp] theorem D_truth_s4 : D.truth  (.lst xs) = some (!xs.isEmpty) := rfl
@[simp] theorem D_truth_s5 : D.truth  (.tup xs) = some (!xs.isEmpty) := rfl
@[simp] theorem D_seq_s0 : D.seq  (.lst xs) = some xs := rfl
@[simp] theorem D_seq_s1 : D.seq  (.tup xs) = some xs := rfl
@[simp] theorem D_ints_s0 : D.ints  [] = some [] := rfl
@[simp] theorem D_ints_s1 : D.ints  (.int i :: r) = (D.ints r).map fun is => i :: is := rfl
@[simp] theorem D_bls_s0 : D.bls  [] = some [] := rfl
@[simp] theorem D_bls_s1 : D.bls  (.bl i :: r) = (D.bls r).map fun is => i :: is := rfl
@[simp] theorem pvK_s0 : pvK  (.ok v s1) = match v.d with
    | some d => .ok (.val d) s1
    | none => .bad := rfl
@[simp] theorem pvK_s1 : pvK  (.ex zc zp zs) = .ex zc zp zs := rfl
@[simp] theorem pvK_s2 : pvK  (.bad) = .bad := rfl
@[simp] theorem opK_s0 : opK o (.ok ps s1) = .opt s1 ((s1.looks ps).bind (opSem o)) := rfl
@[simp] theorem opK_s1 : opK o (.ex zc zp zs) = .ex zc zp zs := rfl
@[simp] theorem opK_s2 : opK o (.bad) = .bad := rfl
@[simp] theorem lstK_s0 : lstK  (.ok ds s1) = if ds.length ≤ lim then .ok (.own (.lst ds)) s1 else .bad := rfl
@[simp] theorem lstK_s1 : lstK  (.ex zc zp zs) = .ex zc zp zs := rfl
@[simp] theorem lstK_s2 : lstK  (.bad) = .bad := rfl
@[simp] theorem tupK_s0 : tupK  (.ok ds s1) = if ds.length ≤ lim then .ok (.shr (.tup ds)) s1 else .bad := rfl
@[simp] theorem tupK_s1 : tupK  (.ex zc zp zs) = .ex zc zp zs := rfl
@[simp] theorem tupK_s2 : tupK  (.bad) = .bad := rfl
@[simp] theorem cmp2D_s0 : cmp2D E p y s (.ok z s3) = .opt s3 ((s3.looks [y, z]).bind (opSem p)) := rfl
@[simp] theorem cmp2D_s1 : cmp2D E p y s (.ex zc zp zs) = .ex zc zp zs := rfl
@[simp] theorem cmp2D_s2 : cmp2D E p y s (.bad) = .bad := rfl
@[simp] theorem cmp2C_s0 : cmp2C E p c y s (some (.shr (.bl true))) = cmp2D E p y s (evPp E c s) := rfl
@[simp] theorem cmp2C_s1 : cmp2C E p c y s (some (.shr (.bl false))) = .ok (.shr (.bl false)) s := rfl
@[simp] theorem cmp2B_s0 : cmp2B E o p c x (.ok y s2) = cmp2C E p c y s2 ((s2.looks [x, y]).bind (opSem o)) := rfl
@[simp] theorem cmp2B_s1 : cmp2B E o p c x (.ex zc zp zs) = .ex zc zp zs := rfl
@[simp] theorem cmp2B_s2 : cmp2B E o p c x (.bad) = .bad := rfl
@[simp] theorem cmp2A_s0 : cmp2A E o p b c (.ok x s1) = cmp2B E o p c x (evPp E b s1) := rfl
@[simp] theorem cmp2A_s1 : cmp2A E o p b c (.ex zc zp zs) = .ex zc zp zs := rfl
@[simp] theorem cmp2A_s2 : cmp2A E o p b c (.bad) = .bad := rfl
@[simp] theorem andK_s0 : andK E b (.ok (.shr (.bl c)) s1) = if c = true then evX E b s1 else .ok (.shr (.bl false)) s1 := rfl
@[simp] theorem andK_s1 : andK E b (.ex zc zp zs) = .ex zc zp zs := rfl
@[simp] theorem orK_s0 : orK E b (.ok (.shr (.bl c)) s1) = if c = true then .ok (.shr (.bl true)) s1 else evX E b s1 := rfl
@[simp] theorem orK_s1 : orK E b (.ex zc zp zs) = .ex zc zp zs := rfl
@[simp] theorem notK_s0 : notK  (.ok (.shr (.bl b)) s1) = .ok (.shr (.bl (!b))) s1 := rfl
@[simp] theorem notK_s1 : notK  (.ex zc zp zs) = .ex zc zp zs := rfl
@[simp] theorem iteK_s0 : iteK E a b (.ok c s1) = if c = true then evX E a s1 else evX E b s1 := rfl
@[simp] theorem iteK_s1 : iteK E a b (.ex zc zp zs) = .ex zc zp zs := rfl
@[simp] theorem iteK_s2 : iteK E a b (.bad) = .bad := rfl
@[simp] theorem sl3C_s0 : sl3C i p (.ok r s3) = match s3.look p, s3.look r with
      | some d, some (.int j) => .opt s3 (slS (some i) (some j) d)
      | _, _ => .bad := rfl
@[simp] theorem sl3C_s1 : sl3C i p (.ex zc zp zs) = .ex zc zp zs := rfl
@[simp] theorem sl3C_s2 : sl3C i p (.bad) = .bad := rfl
@[simp] theorem sl3B_s0 : sl3B E c p (.ok q s2) = match s2.look q with
    | some (.int i) => sl3C i p (evPp E c s2)
    | _ => .bad := rfl
@[simp] theorem sl3B_s1 : sl3B E c p (.ex zc zp zs) = .ex zc zp zs := rfl
@[simp] theorem sl3B_s2 : sl3B E c p (.bad) = .bad := rfl
@[simp] theorem sl3A_s0 : sl3A E b c (.ok p s1) = sl3B E c p (evPp E b s1) := rfl
@[simp] theorem sl3A_s1 : sl3A E b c (.ex zc zp zs) = .ex zc zp zs := rfl
@[simp] theorem sl3A_s2 : sl3A E b c (.bad) = .bad := rfl
@[simp] theorem bmB_s0 : bmB m p (.ok ps s2) = match s2.look p, s2.looks ps with
        | some d, some ds => .opt s2 (bmSem m d ds)
        | _, _ => .bad := rfl
@[simp] theorem bmB_s1 : bmB m p (.ex zc zp zs) = .ex zc zp zs := rfl
@[simp] theorem bmB_s2 : bmB m p (.bad) = .bad := rfl
@[simp] theorem bmA_s0 : bmA E m xs (.ok p s1) = match s1.look p with
    | some d => if bmTy m d = true then bmB m p (evPs E xs s1) else .bad
    | none => .bad := rfl
@[simp] theorem bmA_s1 : bmA E m xs (.ex zc zp zs) = .ex zc zp zs := rfl
@[simp] theorem bmA_s2 : bmA E m xs (.bad) = .bad := rfl
@[simp] theorem callK_s0 : callK E f ms (.ok ps s1) = callRun E f ms ps s1 := rfl
@[simp] theorem callK_s1 : callK E f ms (.ex zc zp zs) = .ex zc zp zs := rfl
@[simp] theorem callK_s2 : callK E f ms (.bad) = .bad := rfl
@[simp] theorem optS_s0 : optS s (some v) = .ok v s := rfl
@[simp] theorem optS_s1 : optS s none = .bad := rfl
@[simp] theorem fldK_s0 : fldK cs f (.ok p s1) = optS s1 ((s1.look p).bind (fldS cs f)) := rfl
@[simp] theorem fldK_s1 : fldK cs f (.ex zc zp zs) = .ex zc zp zs := rfl
@[simp] theorem fldK_s2 : fldK cs f (.bad) = .bad := rfl
@[simp] theorem conK_s0 : conK cs f d (.ok p s1) = optS s1 ((s1.look p).bind (conS cs f d)) := rfl
@[simp] theorem conK_s1 : conK cs f d (.ex zc zp zs) = .ex zc zp zs := rfl
@[simp] theorem conK_s2 : conK cs f d (.bad) = .bad := rfl
@[simp] theorem dgC_s0 : dgC s2 (some d) (some e) = optS s2 (getS d e) := rfl
@[simp] theorem dgB_s0 : dgB p (.ok q s2) = dgC s2 (s2.look p) (s2.look q) := rfl
@[simp] theorem dgB_s1 : dgB p (.ex zc zp zs) = .ex zc zp zs := rfl
@[simp] theorem dgB_s2 : dgB p (.bad) = .bad := rfl
@[simp] theorem dgA_s0 : dgA E b (.ok p s1) = dgB p (evPp E b s1) := rfl
@[simp] theorem dgA_s1 : dgA E b (.ex zc zp zs) = .ex zc zp zs := rfl
@[simp] theorem dgA_s2 : dgA E b (.bad) = .bad := rfl
@[simp] theorem metC_s0 : metC E f ms p (.ok ps s2) = callRun E f ms (p :: ps) s2 := rfl
@[simp] theorem metC_s1 : metC E f ms p (.ex zc zp zs) = .ex zc zp zs := rfl
@[simp] theorem metC_s2 : metC E f ms p (.bad) = .bad := rfl
@[simp] theorem metB_s0 : metB E ms p xs s1 (some f) = metC E f ms p (evPs E xs s1) := rfl
@[simp] theorem metB_s1 : metB E ms p xs s1 none = .bad := rfl
@[simp] theorem metA_s0 : metA E m cs ms xs (.ok p s1) = metB E ms p xs s1 ((s1.look p).bind (dispS m cs)) := rfl
@[simp] theorem metA_s1 : metA E m cs ms xs (.ex zc zp zs) = .ex zc zp zs := rfl
@[simp] theorem metA_s2 : metA E m cs ms xs (.bad) = .bad := rfl
@[simp] theorem makeK_s0 : makeK E c f (.ok ps s1) = makeRun E c f ps s1 := rfl
@[simp] theorem makeK_s1 : makeK E c f (.ex zc zp zs) = .ex zc zp zs := rfl
@[simp] theorem makeK_s2 : makeK E c f (.bad) = .bad := rfl
@[simp] theorem mutB_s0 : mutB i s1 (some (d, r)) = match s1.store i d with
        | some s2 => .ok (.shr r) s2
        | none => .bad := rfl
@[simp] theorem mutB_s1 : mutB i s1 none = .bad := rfl
@[simp] theorem mutA_s0 : mutA m i (.ok ds s1) = mutB i s1 ((s1.look (.at i)).bind fun d => muSem m d ds) := rfl
@[simp] theorem mutA_s1 : mutA m i (.ex zc zp zs) = .ex zc zp zs := rfl
@[simp] theorem mutA_s2 : mutA m i (.bad) = .bad := rfl
@[simp] theorem compE_s0 : compE w (.ok v s3) = match v.d with
              | some d => .ok (some d) (s3.wipe w)
              | none => .bad := rfl
@[simp] theorem compE_s1 : compE w (.ex zc zp zs) = .ex zc zp zs := rfl
@[simp] theorem compE_s2 : compE w (.bad) = .bad := rfl
@[simp] theorem compT_s0 : compT E e w (.ok c s2) = if c = true then compE w (evX E e s2) else .ok none (s2.wipe w) := rfl
@[simp] theorem compT_s1 : compT E e w (.ex zc zp zs) = .ex zc zp zs := rfl
@[simp] theorem compT_s2 : compT E e w (.bad) = .bad := rfl
@[simp] theorem compG_s0 : compG E t e w none = .bad := rfl
@[simp] theorem compG_s1 : compG E t e w (some s') = compT E e w (evT E t s') := rfl
@[simp] theorem compZ_s0 : compZ s1 w (.ok acc s2) = .ok (.own (.lst acc)) (s1.restore s2 w) := rfl
@[simp] theorem compZ_s1 : compZ s1 w (.ex zc zp zs) = .ex zc zp zs := rfl
@[simp] theorem compZ_s2 : compZ s1 w (.bad) = .bad := rfl
@[simp] theorem compI_s0 : compI E w tg t e ps ds s1 none = .bad := rfl
@[simp] theorem compI_s1 : compI E w tg t e ps ds s1 (some items) = compZ s1 w (compRun (compStep E w tg t e) (looksB ps ds) items [] (s1.wipe w)) := rfl
@[simp] theorem compL_s0 : compL E w tg it t e ps s1 none = .bad := rfl
@[simp] theorem compL_s1 : compL E w tg it t e ps s1 (some ds) = compI E w tg t e ps ds s1 (itSem it ds) := rfl
@[simp] theorem compA_s0 : compA E w tg it t e (.ok ps s1) = compL E w tg it t e ps s1 (s1.looks ps) := rfl
@[simp] theorem compA_s1 : compA E w tg it t e (.ex zc zp zs) = .ex zc zp zs := rfl
@[simp] theorem compA_s2 : compA E w tg it t e (.bad) = .bad := rfl
@[simp] theorem c2E_s0 : c2E w (.ok acc s) = .ok acc (s.wipe w) := rfl
@[simp] theorem c2E_s1 : c2E w (.ex zc zp zs) = .ex zc zp zs := rfl
@[simp] theorem c2E_s2 : c2E w (.bad) = .bad := rfl
@[simp] theorem c2I_s0 : c2I E w vs1 tg1 t1 e acc ps1 ds1 s3 none = .bad := rfl
@[simp] theorem c2I_s1 : c2I E w vs1 tg1 t1 e acc ps1 ds1 s3 (some items1) = c2E w (compRun (compStep E vs1 tg1 t1 e) (looksB ps1 ds1) items1 acc (s3.wipe vs1)) := rfl
@[simp] theorem c2L_s0 : c2L E w vs1 tg1 itb t1 e acc ps1 s3 none = .bad := rfl
@[simp] theorem c2L_s1 : c2L E w vs1 tg1 itb t1 e acc ps1 s3 (some ds1) = c2I E w vs1 tg1 t1 e acc ps1 ds1 s3 (itSem itb ds1) := rfl
@[simp] theorem c2A_s0 : c2A E w vs1 tg1 itb t1 e acc (.ok ps1 s3) = c2L E w vs1 tg1 itb t1 e acc ps1 s3 (s3.looks ps1) := rfl
@[simp] theorem c2A_s1 : c2A E w vs1 tg1 itb t1 e acc (.ex zc zp zs) = .ex zc zp zs := rfl
@[simp] theorem c2A_s2 : c2A E w vs1 tg1 itb t1 e acc (.bad) = .bad := rfl
@[simp] theorem c2T_s0 : c2T E w vs1 tg1 itb t1 e acc (.ok c s2) = if c = true then c2A E w vs1 tg1 itb t1 e acc (evIt E itb s2) else .ok acc (s2.wipe w) := rfl
@[simp] theorem c2T_s1 : c2T E w vs1 tg1 itb t1 e acc (.ex zc zp zs) = .ex zc zp zs := rfl
@[simp] theorem c2T_s2 : c2T E w vs1 tg1 itb t1 e acc (.bad) = .bad := rfl
@[simp] theorem c2S_s0 : c2S E w vs1 t tg1 itb t1 e acc none = .bad := rfl
@[simp] theorem c2S_s1 : c2S E w vs1 t tg1 itb t1 e acc (some s') = c2T E w vs1 tg1 itb t1 e acc (evT E t s') := rfl
@[simp] theorem comp2I_s0 : comp2I E w vs1 tg t tg1 itb t1 e ps ds s1 none = .bad := rfl
@[simp] theorem comp2I_s1 : comp2I E w vs1 tg t tg1 itb t1 e ps ds s1 (some items) = compZ s1 w (foldRun (comp2Step E w vs1 tg t tg1 itb t1 e) (looksB ps ds) items [] (s1.wipe w)) := rfl
@[simp] theorem comp2L_s0 : comp2L E w vs1 tg it t tg1 itb t1 e ps s1 none = .bad := rfl
@[simp] theorem comp2L_s1 : comp2L E w vs1 tg it t tg1 itb t1 e ps s1 (some ds) = comp2I E w vs1 tg t tg1 itb t1 e ps ds s1 (itSem it ds) := rfl
@[simp] theorem comp2A_s0 : comp2A E w vs1 tg it t tg1 itb t1 e (.ok ps s1) = comp2L E w vs1 tg it t tg1 itb t1 e ps s1 (s1.looks ps) := rfl
@[simp] theorem comp2A_s1 : comp2A E w vs1 tg it t tg1 itb t1 e (.ex zc zp zs) = .ex zc zp zs := rfl
@[simp] theorem comp2A_s2 : comp2A E w vs1 tg it t tg1 itb t1 e (.bad) = .bad := rfl
@[simp] theorem psB_s0 : psB p (.ok ps s2) = .ok (p :: ps) s2 := rfl
@[simp] theorem psB_s1 : psB p (.ex zc zp zs) = .ex zc zp zs := rfl
@[simp] theorem psB_s2 : psB p (.bad) = .bad := rfl
@[simp] theorem psA_s0 : psA E xs (.ok p s1) = psB p (evPs E xs s1) := rfl
@[simp] theorem psA_s1 : psA E xs (.ex zc zp zs) = .ex zc zp zs := rfl
@[simp] theorem psA_s2 : psA E xs (.bad) = .bad := rfl
@[simp] theorem msB_s0 : msB d (.ok ds s2) = .ok (d :: ds) s2 := rfl
@[simp] theorem msB_s1 : msB d (.ex zc zp zs) = .ex zc zp zs := rfl
@[simp] theorem msB_s2 : msB d (.bad) = .bad := rfl
@[simp] theorem msA_s0 : msA E xs (.ok v s1) = match v.d with
    | some d => msB d (evMs E xs s1)
    | none => .bad := rfl
@[simp] theorem msA_s1 : msA E xs (.ex zc zp zs) = .ex zc zp zs := rfl
@[simp] theorem msA_s2 : msA E xs (.bad) = .bad := rfl
@[simp] theorem tIsN_s0 : tIsN n (.ok p s1) = .opt s1 ((s1.look p).map fun d => if n = true then !decide (d = .non) else decide (d = .non)) := rfl
@[simp] theorem tIsN_s1 : tIsN n (.ex zc zp zs) = .ex zc zp zs := rfl
@[simp] theorem tIsN_s2 : tIsN n (.bad) = .bad := rfl
@[simp] theorem tX_s0 : tX  (.ok p s1) = .opt s1 ((s1.look p).bind D.truth) := rfl
@[simp] theorem tX_s1 : tX  (.ex zc zp zs) = .ex zc zp zs := rfl
@[simp] theorem tX_s2 : tX  (.bad) = .bad := rfl
@[simp] theorem tBl_s0 : tBl s (some (.shr (.bl b))) = .ok b s := rfl
@[simp] theorem tCmpB_s0 : tCmpB o x (.ok y s2) = tBl s2 ((s2.looks [x, y]).bind (opSem o)) := rfl
@[simp] theorem tCmpB_s1 : tCmpB o x (.ex zc zp zs) = .ex zc zp zs := rfl
@[simp] theorem tCmpB_s2 : tCmpB o x (.bad) = .bad := rfl
@[simp] theorem tCmpA_s0 : tCmpA E o b (.ok x s1) = tCmpB o x (evPp E b s1) := rfl
@[simp] theorem tCmpA_s1 : tCmpA E o b (.ex zc zp zs) = .ex zc zp zs := rfl
@[simp] theorem tCmpA_s2 : tCmpA E o b (.bad) = .bad := rfl
@[simp] theorem t2D_s0 : t2D p y (.ok z s3) = tBl s3 ((s3.looks [y, z]).bind (opSem p)) := rfl
@[simp] theorem t2D_s1 : t2D p y (.ex zc zp zs) = .ex zc zp zs := rfl
@[simp] theorem t2D_s2 : t2D p y (.bad) = .bad := rfl
@[simp] theorem t2C_s0 : t2C E p c y s (some (.shr (.bl b))) = if b = true then t2D p y (evPp E c s) else .ok false s := rfl
@[simp] theorem t2B_s0 : t2B E o p c x (.ok y s2) = t2C E p c y s2 ((s2.looks [x, y]).bind (opSem o)) := rfl
@[simp] theorem t2B_s1 : t2B E o p c x (.ex zc zp zs) = .ex zc zp zs := rfl
@[simp] theorem t2B_s2 : t2B E o p c x (.bad) = .bad := rfl
@[simp] theorem t2A_s0 : t2A E o p b c (.ok x s1) = t2B E o p c x (evPp E b s1) := rfl
@[simp] theorem t2A_s1 : t2A E o p b c (.ex zc zp zs) = .ex zc zp zs := rfl
@[simp] theorem t2A_s2 : t2A E o p b c (.bad) = .bad := rfl
@[simp] theorem tAndK_s0 : tAndK E b (.ok c s1) = if c = true then evT E b s1 else .ok false s1 := rfl
@[simp] theorem tAndK_s1 : tAndK E b (.ex zc zp zs) = .ex zc zp zs := rfl
@[simp] theorem tAndK_s2 : tAndK E b (.bad) = .bad := rfl
@[simp] theorem tOrK_s0 : tOrK E b (.ok c s1) = if c = true then .ok true s1 else evT E b s1 := rfl
@[simp] theorem tOrK_s1 : tOrK E b (.ex zc zp zs) = .ex zc zp zs := rfl
@[simp] theorem tOrK_s2 : tOrK E b (.bad) = .bad := rfl
@[simp] theorem tNotK_s0 : tNotK  (.ok c s1) = .ok (!c) s1 := rfl
@[simp] theorem tNotK_s1 : tNotK  (.ex zc zp zs) = .ex zc zp zs := rfl
@[simp] theorem tNotK_s2 : tNotK  (.bad) = .bad := rfl
@[simp] theorem it1_s0 : it1  (.ok p s1) = .ok [p] s1 := rfl
@[simp] theorem it1_s1 : it1  (.ex zc zp zs) = .ex zc zp zs := rfl
@[simp] theorem it1_s2 : it1  (.bad) = .bad := rfl
@[simp] theorem it2B_s0 : it2B p (.ok q s2) = .ok [p, q] s2 := rfl
@[simp] theorem it2B_s1 : it2B p (.ex zc zp zs) = .ex zc zp zs := rfl
@[simp] theorem it2B_s2 : it2B p (.bad) = .bad := rfl
@[simp] theorem it2_s0 : it2 E b (.ok p s1) = it2B p (evPp E b s1) := rfl
@[simp] theorem it2_s1 : it2 E b (.ex zc zp zs) = .ex zc zp zs := rfl
@[simp] theorem it2_s2 : it2 E b (.bad) = .bad := rfl
@[simp] theorem exprK_s0 : exprK  (.ok q1_ s1) = .nx s1 := rfl
@[simp] theorem exprK_s1 : exprK  (.ex zc zp zs) = .ex zc zp zs := rfl
@[simp] theorem exprK_s2 : exprK  (.bad) = .bad := rfl
@[simp] theorem setK_s0 : setK i (.ok v s1) = if i < s1.env.length then .nx (s1.put i v) else .bad := rfl
@[simp] theorem setK_s1 : setK i (.ex zc zp zs) = .ex zc zp zs := rfl
@[simp] theorem setK_s2 : setK i (.bad) = .bad := rfl
@[simp] theorem setfK_s0 : setfK i (.ok v s1) = match v.d with
    | some d => if i < s1.env.length then .nx (s1.put i (.shr d)) else .bad
    | none => .bad := rfl
@[simp] theorem setfK_s1 : setfK i (.ex zc zp zs) = .ex zc zp zs := rfl
@[simp] theorem setfK_s2 : setfK i (.bad) = .bad := rfl
@[simp] theorem nxO_s0 : nxO  (some s) = .nx s := rfl
@[simp] theorem nxO_s1 : nxO  none = .bad := rfl
@[simp] theorem asgK_s0 : asgK t (.ok v s1) = match v.d with
    | some d => nxO (S.asg t d s1)
    | none => .bad := rfl
@[simp] theorem asgK_s1 : asgK t (.ex zc zp zs) = .ex zc zp zs := rfl
@[simp] theorem asgK_s2 : asgK t (.bad) = .bad := rfl
@[simp] theorem retK_s0 : retK  (.ok v s1) = .rt v s1 := rfl
@[simp] theorem retK_s1 : retK  (.ex zc zp zs) = .ex zc zp zs := rfl
@[simp] theorem retK_s2 : retK  (.bad) = .bad := rfl
@[simp] theorem sixC_s0 : sixC i d s2 (some (.lst xs)) (some (.int j)) = match ixN xs.length j with
          | some n => nxO (s2.store i (.lst (xs.set n d)))
          | none => .bad := rfl
@[simp] theorem sixB_s0 : sixB i d (.ok p s2) = sixC i d s2 (s2.look (.at i)) (s2.look p) := rfl
@[simp] theorem sixB_s1 : sixB i d (.ex zc zp zs) = .ex zc zp zs := rfl
@[simp] theorem sixB_s2 : sixB i d (.bad) = .bad := rfl
@[simp] theorem sfC_s0 : sfC i s1 (some d2) = match s1.store i d2 with
    | some s2 => .nx s2
    | none => .bad := rfl
@[simp] theorem sfC_s1 : sfC i s1 none = .bad := rfl
@[simp] theorem sfA_s0 : sfA c i f (.ok v s1) = match v.d with
    | some d => sfC i s1 ((s1.look (.at i)).bind (sfS c f d))
    | none => .bad := rfl
@[simp] theorem sfA_s1 : sfA c i f (.ex zc zp zs) = .ex zc zp zs := rfl
@[simp] theorem sfA_s2 : sfA c i f (.bad) = .bad := rfl
@[simp] theorem sixA_s0 : sixA E i k (.ok v s1) = match v.d with
    | some d => match s1.slot i with
      | some _ => sixB i d (evPp E k s1)
      | none => .bad
    | none => .bad := rfl
@[simp] theorem sixA_s1 : sixA E i k (.ex zc zp zs) = .ex zc zp zs := rfl
@[simp] theorem sixA_s2 : sixA E i k (.bad) = .bad := rfl
@[simp] theorem ifK_s0 : ifK E a b w (.ok c s1) = if c = true then (exCs E a s1).wipe w else (exCs E b s1).wipe w := rfl
@[simp] theorem ifK_s1 : ifK E a b w (.ex zc zp zs) = .ex zc zp zs := rfl
@[simp] theorem ifK_s2 : ifK E a b w (.bad) = .bad := rfl
@[simp] theorem forG_s0 : forG E b none = .bad := rfl
@[simp] theorem forG_s1 : forG E b (some s') = exCs E b s' := rfl
@[simp] theorem forI_s0 : forI E tg b w ps ds s1 none = .bad := rfl
@[simp] theorem forI_s1 : forI E tg b w ps ds s1 (some items) = forRun (forStep E tg b) (looksB ps ds) w items s1 := rfl
@[simp] theorem forL_s0 : forL E tg it b w ps s1 none = .bad := rfl
@[simp] theorem forL_s1 : forL E tg it b w ps s1 (some ds) = forI E tg b w ps ds s1 (itSem it ds) := rfl
@[simp] theorem forF_s0 : forF E tg it b w none = .bad := rfl
@[simp] theorem forF_s1 : forF E tg it b w (some (ps, s1)) = forL E tg it b w ps s1 (s1.looks ps) := rfl
@[simp] theorem forA_s0 : forA E tg it b w (.ok ps0 s0) = forF E tg it b w (s0.fixes ps0) := rfl
@[simp] theorem forA_s1 : forA E tg it b w (.ex zc zp zs) = .ex zc zp zs := rfl
@[simp] theorem forA_s2 : forA E tg it b w (.bad) = .bad := rfl
@[simp] theorem tryH_s0 : tryH E c' p i h s1 (some true) = if (i.toList.all fun j => decide (j < s1.env.length)) = true then (exHs E.sub c' p h (s1.wipe i.toList)).wipeA i.toList else .bad := rfl
@[simp] theorem tryH_s1 : tryH E c' p i h s1 (some false) = .ex c' p s1 := rfl
@[simp] theorem tryH_s2 : tryH E c' p i h s1 none = .bad := rfl
@[simp] theorem tryK_s0 : tryK E c i h (.ex c' p s1) = tryH E c' p i h s1 (E.sub c' c) := rfl
@[simp] theorem seqK_s0 : seqK E cs (.nx s) = exCs E cs s := rfl
@[simp] theorem seqK_rt (E cs v s) : seqK E cs (.rt v s) = .rt v s := rfl
@[simp] theorem seqK_bk (E cs s) : seqK E cs (.bk s) = .bk s := rfl
@[simp] theorem seqK_ct (E cs s) : seqK E cs (.ct s) = .ct s := rfl
@[simp] theorem seqK_ex (E cs c p s) : seqK E cs (.ex c p s) = .ex c p s := rfl
@[simp] theorem seqK_bad (E cs) : seqK E cs .bad = .bad := rfl
@[simp] theorem tryK_nx (E c i h s) : tryK E c i h (.nx s) = .nx s := rfl
@[simp] theorem tryK_rt (E c i h v s) : tryK E c i h (.rt v s) = .rt v s := rfl
@[simp] theorem tryK_bk (E c i h s) : tryK E c i h (.bk s) = .bk s := rfl
@[simp] theorem tryK_ct (E c i h s) : tryK E c i h (.ct s) = .ct s := rfl
@[simp] theorem tryK_bad (E c i h) : tryK E c i h .bad = .bad := rfl
@[simp] theorem opt_smS {α} (a : α) (s : S) : Out.opt s (some a) = .ok a s := rfl
@[simp] theorem opt_nnS {α} (s : S) : (Out.opt s none : Out α) = .bad := rfl
@[simp] theorem wipe_nx (s : S) (w) : (O.nx s).wipe w = .nx (s.wipe w) := rfl
@[simp] theorem wipe_rt (v) (s : S) (w) : (O.rt v s).wipe w = .rt v s := rfl
@[simp] theorem wipe_bk (s : S) (w) : (O.bk s).wipe w = .bk s := rfl
@[simp] theorem wipe_ct (s : S) (w) : (O.ct s).wipe w = .ct s := rfl
@[simp] theorem wipe_ex (c p) (s : S) (w) : (O.ex c p s).wipe w = .ex c p s := rfl
@[simp] theorem wipe_bad (w) : (O.bad).wipe w = .bad := rfl
@[simp] theorem wipeA_nx (s : S) (w) : (O.nx s).wipeA w = .nx (s.wipe w) := rfl
@[simp] theorem wipeA_rt (v) (s : S) (w) : (O.rt v s).wipeA w = .rt v s := rfl
@[simp] theorem wipeA_bk (s : S) (w) : (O.bk s).wipeA w = .bk (s.wipe w) := rfl
@[simp] theorem wipeA_ct (s : S) (w) : (O.ct s).wipeA w = .ct (s.wipe w) := rfl
@[simp] theorem wipeA_ex (c p) (s : S) (w) : (O.ex c p s).wipeA w = .ex c p s := rfl
@[simp] theorem wipeA_bad (w) : (O.bad).wipeA w = .bad := rfl
@[simp] theorem swipe_nil (s : S) : s.wipe [] = s := rfl
@[simp] theorem swipe_cons (e b i is) : (S.mk e b).wipe (i :: is) = (S.mk (e.set i none) b).wipe is := rfl
@[simp] theorem SVd_shr (d) : (SV.shr d).d = some d := rfl
@[simp] theorem SVd_own (d) : (SV.own d).d = some d := rfl
@[simp] theorem data_shr (s : S) (d) : s.data (.shr d) = some d := rfl
@[simp] theorem data_own (s : S) (d) : s.data (.own d) = some d := rfl
@[simp] theorem data_bor (s : S) (k) : s.data (.bor k) = s.bs[k]? := rfl
@[simp] theorem put_mk (e b i v) : (S.mk e b).put i v = ⟨e.set i (some v), b⟩ := rfl
@[simp] theorem look_val (s : S) (d) : s.look (.val d) = some d := rfl
@[simp] theorem look_at (s : S) (i) : s.look (.at i) = (s.slot i).bind s.data := rfl
@[simp] theorem look_br (s : S) (k) : s.look (.br k) = s.bs[k]? := rfl
@[simp] theorem fix_val (s : S) (d) : s.fix (.val d) = some (.val d, s) := rfl
@[simp] theorem fix_br (s : S) (d) : s.fix (.br d) = some (.br d, s) := rfl
@[simp] theorem fix_at (s : S) (i) : s.fix (.at i) = match s.slot i with
    | some (.shr d) => some (.val d, s)
    | some (.own d) => some (.val d, s.put i (.shr d))
    | some (.bor k) => some (.br k, s)
    | none => none := rfl
@[simp] theorem fixes_nil (s : S) : s.fixes [] = some ([], s) := rfl
@[simp] theorem fixes_cons (s : S) (p ps) : s.fixes (p :: ps) = match s.fix p with
    | none => none
    | some (q, s1) => match s1.fixes ps with
      | none => none
      | some (qs, s2) => some (q :: qs, s2) := rfl
@[simp] theorem looks_nil (s : S) : s.looks [] = some [] := rfl
@[simp] theorem looks_cons (s : S) (p ps) : s.looks (p :: ps) = (s.look p).bind fun d => (s.looks ps).map fun ds => d :: ds := rfl
@[simp] theorem slot_mk (e b i) : (S.mk e b).slot i = (e[i]?).bind id := rfl
@[simp] theorem asg_nm (i d s) : S.asg (.nm i) d s = some (s.put i (.shr d)) := rfl
@[simp] theorem asg_tup (ts ds s) : S.asg (.tup ts) (.tup ds) s = S.asgs ts ds s := rfl
@[simp] theorem asgs_nil (s) : S.asgs [] [] s = some s := rfl
@[simp] theorem asgs_cons (t ts d ds s) : S.asgs (t :: ts) (d :: ds) s = (S.asg t d s).bind fun s' => S.asgs ts ds s' := rfl
@[simp] theorem forRun_nil (b ok w s) : forRun b ok w [] s = if ok s = true then .nx (s.wipe w) else .bad := rfl
theorem forRun_cons (b ok w d ds s) : forRun b ok w (d :: ds) s = if ok s = true then loopNext (forRun b ok w ds) w (b (s.wipe w) d) else .bad := rfl
@[simp] theorem loopNext_nx (k w s) : loopNext k w (.nx s) = k s := rfl
@[simp] theorem loopNext_ct (k w s) : loopNext k w (.ct s) = k s := rfl
@[simp] theorem loopNext_bk (k w s) : loopNext k w (.bk s) = .nx (s.wipe w) := rfl
@[simp] theorem loopNext_rt (k w v s) : loopNext k w (.rt v s) = .rt v s := rfl
@[simp] theorem loopNext_ex (k w c p s) : loopNext k w (.ex c p s) = .ex c p s := rfl
@[simp] theorem loopNext_bad (k w) : loopNext k w .bad = .bad := rfl
@[simp] theorem compRun_nil (b ok acc s) : compRun b ok [] acc s = if ok s = true then .ok acc s else .bad := rfl
theorem compRun_cons (b ok d ds acc s) : compRun b ok (d :: ds) acc s = if ok s = true then compNext (compRun b ok ds) acc (b s d) else .bad := rfl
@[simp] theorem compNext_some (k acc e s) : compNext k acc (.ok (some e) s) = if acc.length < lim then k (acc ++ [e]) s else .bad := rfl
@[simp] theorem compNext_none (k acc s) : compNext k acc (.ok none s) = k acc s := rfl
@[simp] theorem whileRun_zero (c b w s) : whileRun c b w 0 s = .bad := rfl
theorem whileRun_succ (c b w n s) : whileRun c b w (n + 1) s = (c (s.wipe w)).to fun d s1 => if d = true then loopNext (whileRun c b w n) w (b s1) else .nx (s1.wipe w) := rfl
@[simp] theorem slS_lst (lo hi xs) : slS lo hi (.lst xs) = some (.own (.lst (cutG xs lo hi))) := rfl
@[simp] theorem slS_tup (lo hi xs) : slS lo hi (.tup xs) = some (.shr (.tup (cutG xs lo hi))) := rfl
@[simp] theorem inS_lst (d xs) : inS d (.lst xs) = D.isinL d xs := rfl
theorem ltS_lst (xs ys) : ltS (.lst xs) (.lst ys) = if D.cmpq (.lst xs) (.lst ys) = true then some (PySem.W.dataLt (D.py (.lst xs)) (D.py (.lst ys))) else none := rfl
theorem ltS_tup (xs ys) : ltS (.tup xs) (.tup ys) = if D.cmpq (.tup xs) (.tup ys) = true then some (PySem.W.dataLt (D.py (.tup xs)) (D.py (.tup ys))) else none := rfl
theorem leS_lst (xs ys) : leS (.lst xs) (.lst ys) = if D.cmpq (.lst xs) (.lst ys) = true then some (!PySem.W.dataLt (D.py (.lst ys)) (D.py (.lst xs))) else none := rfl
theorem leS_tup (xs ys) : leS (.tup xs) (.tup ys) = if D.cmpq (.tup xs) (.tup ys) = true then some (!PySem.W.dataLt (D.py (.tup ys)) (D.py (.tup xs))) else none := rfl
@[simp] theorem inS_tup (d xs) : inS d (.tup xs) = D.isin d xs := rfl
@[simp] theorem inS_str (y z) : inS (.str y) (.str z) = some (!(Builtin.Str.occurrences z y 0 z.length 1).isEmpty) := rfl
@[simp] theorem mk_env (e b) : (S.mk e b).env = e := rfl
@[simp] theorem mk_bs (e b) : (S.mk e b).bs = b := rfl
@[simp] theorem restore_mk (e b e' b' is) : (S.mk e b).restore (S.mk e' b') is = ⟨is.foldl (fun x i => x.set i (match e[i]? with | some (some (.shr d)) => some (.shr d) | _ => none)) e', b'⟩ := rfl
@[simp] theorem store_mk (e b i d) : (S.mk e b).store i d = match (e[i]?).bind id with
  | some (.own _) => some ⟨e.set i (some (.own d)), b⟩
  | some (.bor k) => some ⟨e, b.set k d⟩
  | _ => none := rfl
@[simp] theorem mutb_mk (e b i) : (S.mk e b).mutb i = match (e[i]?).bind id with
  | some (.own _) => true | some (.bor _) => true | _ => false := rfl
@[simp] theorem args_nil (s : S) : s.args [] [] = some [] := rfl
@[simp] theorem args_val (s : S) (ms p ps) : s.args (false :: ms) (p :: ps) = (s.look p).bind fun d => (s.args ms ps).map fun as => .val d :: as := by cases p <;> rfl
@[simp] theorem args_bor (s : S) (ms i ps) : s.args (true :: ms) (.at i :: ps) = if s.mutb i = true then (s.look (.at i)).bind fun d => (s.args ms ps).map fun as => .bor d :: as else none := rfl
@[simp] theorem borPs_nil : borPs [] [] = [] := rfl
@[simp] theorem borPs_t (ms i ps) : borPs (true :: ms) (.at i :: ps) = i :: borPs ms ps := rfl
@[simp] theorem borPs_f (ms p ps) : borPs (false :: ms) (p :: ps) = borPs ms ps := by cases p <;> rfl
@[simp] theorem valPs_nil : valPs [] [] = [] := rfl
@[simp] theorem valPs_t (ms p ps) : valPs (true :: ms) (p :: ps) = valPs ms ps := rfl
@[simp] theorem valPs_f (ms p ps) : valPs (false :: ms) (p :: ps) = p :: valPs ms ps := rfl
@[simp] theorem atsOf_nil : atsOf [] = [] := rfl
@[simp] theorem atsOf_at (i ps) : atsOf (.at i :: ps) = i :: atsOf ps := rfl
@[simp] theorem atsOf_val (i ps) : atsOf (.val i :: ps) = atsOf ps := rfl
@[simp] theorem atsOf_br (i ps) : atsOf (.br i :: ps) = atsOf ps := rfl
@[simp] theorem stores_nil (s : S) : s.stores [] [] = some s := rfl
@[simp] theorem stores_cons (s : S) (i is d ds) : s.stores (i :: is) (d :: ds) = (s.store i d).bind fun s' => s'.stores is ds := rfl
@[simp] theorem moves_nil (s : S) : s.moves [] = some s := rfl
@[simp] theorem moves_val (s : S) (d ps) : s.moves (.val d :: ps) = s.moves ps := rfl
@[simp] theorem moves_at (s : S) (i ps) : s.moves (.at i :: ps) = match s.move i with
    | some (_, s') => s'.moves ps
    | none => none := rfl
@[simp] theorem move_mk (e b i) : (S.mk e b).move i = match (e[i]?).bind id with
  | some (.shr d) => some (d, ⟨e, b⟩)
  | some (.own d) => some (d, ⟨e.set i (some (.shr d)), b⟩)
  | _ => none := rfl
/-- a call: what comes back -/
def callR (ms : List Bool) (ps : List PV) (s : S) : OF → Out SV
  | .ret v bs => if (v.flat && bs.all D.tfl1) = true then match s.stores (borPs ms ps) bs with
          | none => .bad
          | some s1 => .ok v s1
        else match s.moves (valPs ms ps) with
          | none => .bad
          | some s1 => match s1.stores (borPs ms ps) bs with
            | none => .bad
            | some s2 => .ok v s2
  | .ex c p bs => if (p.isEmpty && bs.all D.tfl1) = true then match s.stores (borPs ms ps) bs with
          | none => .bad
          | some s1 => .ex c p s1
        else match s.moves (valPs ms ps) with
          | none => .bad
          | some s1 => match s1.stores (borPs ms ps) bs with
            | none => .bad
            | some s2 => .ex c p s2
  | .bad => .bad
def callQ (E : Env) (f : Nat) (ms : List Bool) (ps : List PV) (s : S) : Option (List Arg) → Out SV
  | none => .bad
  | some as => if (decide (borPs ms ps).Nodup && (atsOf (valPs ms ps)).all fun i => decide (i ∉ borPs ms ps)) = true then callR ms ps s (E.cl f as) else .bad
@[simp] theorem callRun_k (E f ms ps s) : callRun E f ms ps s = callQ E f ms ps s (s.args ms ps) := by
  unfold callRun
  cases s.args ms ps with
  | none => rfl
  | some as =>
    show (if _ then _ else _) = if _ then _ else _
    split
    · cases E.cl f as <;> rfl
    · rfl
@[simp] theorem callQ_some (E f ms ps s as) : callQ E f ms ps s (some as) = if (decide (borPs ms ps).Nodup && (atsOf (valPs ms ps)).all fun i => decide (i ∉ borPs ms ps)) = true then callR ms ps s (E.cl f as) else .bad := rfl
/-- C(..): what comes back -/
def mkR (c : Nat) (ps : List PV) (s : S) : OF → Out SV
  | .ret (.shr .non) [d] => match s.moves ps with
      | none => .bad
      | some s1 => .ok (.own d) s1
  | .ex c' p [_] => if p.isEmpty = true then .ex c' p s else match s.moves ps with
      | none => .bad
      | some s1 => .ex c' p s1
  | _ => .bad
def mkQ (E : Env) (c f : Nat) (ps : List PV) (s : S) : Option (List Arg) → Out SV
  | none => .bad
  | some as => mkR c ps s (E.cl f (.bor (.obj c [] []) :: as))
@[simp] theorem makeRun_k (E c f ps s) : makeRun E c f ps s = mkQ E c f ps s (s.args (ps.map fun _ => false) ps) := by
  unfold makeRun
  cases s.args (ps.map fun _ => false) ps with
  | none => rfl
  | some as => rfl
@[simp] theorem mkQ_some (E c f ps s as) : mkQ E c f ps s (some as) = mkR c ps s (E.cl f (.bor (.obj c [] []) :: as)) := rfl
def mkD (d : D) : Option S → Out SV
  | none => .bad
  | some s1 => .ok (.own d) s1
@[simp] theorem mkD_s (d s) : mkD d (some s) = .ok (.own d) s := rfl
@[simp] theorem mkR_ret (c ps s d) : mkR c ps s (.ret (.shr .non) [d]) = mkD d (s.moves ps) := by
  show (match s.moves ps with | none => (Out.bad : Out SV) | some s1 => .ok (SV.own d) s1) = _
  cases s.moves ps <;> rfl
@[simp] theorem mkR_ex (c ps s c' b) : mkR c ps s (.ex c' [] [b]) = .ex c' [] s := rfl
/-- what came back is put where it was lent -/
def stK (v : SV) : Option S → Out SV
  | none => .bad
  | some s1 => .ok v s1
def mvK (v : SV) (is : List Nat) (bs : List D) : Option S → Out SV
  | none => .bad
  | some s1 => stK v (s1.stores is bs)
def callF (fl : Bool) (ms : List Bool) (ps : List PV) (s : S) (v : SV) (bs : List D) : Out SV := match fl with
  | true => stK v (s.stores (borPs ms ps) bs)
  | false => mvK v (borPs ms ps) bs (s.moves (valPs ms ps))
@[simp] theorem stK_s (v s) : stK v (some s) = .ok v s := rfl
@[simp] theorem mvK_s (v is bs s) : mvK v is bs (some s) = stK v (s.stores is bs) := rfl
@[simp] theorem callF_t (ms ps s v bs) : callF true ms ps s v bs = stK v (s.stores (borPs ms ps) bs) := rfl
@[simp] theorem callF_f (ms ps s v bs) : callF false ms ps s v bs = mvK v (borPs ms ps) bs (s.moves (valPs ms ps)) := rfl
@[simp] theorem callF_any (fl ms ps s v bs) (h : s.moves (valPs ms ps) = some s) : callF fl ms ps s v bs = stK v (s.stores (borPs ms ps) bs) := by
  cases fl with
  | true => rfl
  | false => show mvK v _ bs (s.moves (valPs ms ps)) = _; rw [h]; rfl
@[simp] theorem callR_ret (ms ps s v bs) : callR ms ps s (.ret v bs) = callF (v.flat && bs.all D.tfl1) ms ps s v bs := by
  show (if (v.flat && bs.all D.tfl1) = true then _ else _) = _
  cases h : (v.flat && bs.all D.tfl1) with
  | true =>
    rw [if_pos rfl, callF_t]
    cases s.stores (borPs ms ps) bs <;> rfl
  | false =>
    rw [if_neg Bool.false_ne_true, callF_f]
    cases s.moves (valPs ms ps) with
    | none => rfl
    | some s1 => show (match s1.stores (borPs ms ps) bs with | none => _ | some s2 => _) = stK v (s1.stores (borPs ms ps) bs); cases s1.stores (borPs ms ps) bs <;> rfl
def stX (c : Nat) (p : List (Str × D)) : Option S → Out SV
  | none => .bad
  | some s1 => .ex c p s1
@[simp] theorem stX_s (c p s) : stX c p (some s) = .ex c p s := rfl
@[simp] theorem callR_ex0 (ms ps s c) : callR ms ps s (.ex c [] []) = stX c [] (s.stores (borPs ms ps) []) := by
  show (match s.stores (borPs ms ps) [] with | none => Out.bad | some s1 => Out.ex c [] s1) = _
  cases s.stores (borPs ms ps) [] <;> rfl
@[simp] theorem callR_ex1 (ms ps s c p b bs) : callR ms ps s (.ex c p (b :: bs)) = if (p.isEmpty && (b :: bs).all D.tfl1) = true then stX c p (s.stores (borPs ms ps) (b :: bs)) else match s.moves (valPs ms ps) with
    | none => .bad
    | some s1 => stX c p (s1.stores (borPs ms ps) (b :: bs)) := by
  unfold callR
  simp only
  split
  · cases s.stores (borPs ms ps) (b :: bs) <;> rfl
  · cases s.moves (valPs ms ps) with
    | none => rfl
    | some s1 => simp only; cases s1.stores (borPs ms ps) (b :: bs) <;> rfl
@[simp] theorem flat_shr (d) : (SV.shr d).flat = d.tfl := rfl
@[simp] theorem flat_own (d) : (SV.own d).flat = d.tfl1 := rfl
@[simp] theorem tfl_int (i) : (D.int i).tfl = true := rfl
@[simp] theorem tfl_str (i) : (D.str i).tfl = true := rfl
@[simp] theorem tfl_bl (i) : (D.bl i).tfl = true := rfl
@[simp] theorem tfl_non : (D.non).tfl = true := rfl
@[simp] theorem tfl_lst (xs) : (D.lst xs).tfl = false := rfl
@[simp] theorem tfl_frl (xs) : (D.frl xs).tfl = false := rfl
@[simp] theorem tfl_tup (xs) : (D.tup xs).tfl = xs.all D.tfl := D.tfls_all xs
@[simp] theorem tfl1_lst (xs) : (D.lst xs).tfl1 = xs.all D.tfl := D.tfls_all xs
@[simp] theorem tfl_ints (is : List Int) : ((is.map D.int).all D.tfl) = true := by simp
@[simp] theorem all_tfl_ints (is : List Int) : is.all (D.tfl ∘ D.int) = true := by simp [Function.comp]
@[simp] theorem all_tfl_nats (is : List Nat) (f : Nat → Int) : is.all (D.tfl ∘ D.int ∘ f) = true := by simp [Function.comp]
@[simp] theorem flat_int (i) : (D.int i).flat = true := rfl
@[simp] theorem flat_str (i) : (D.str i).flat = true := rfl
@[simp] theorem flat_bl (i) : (D.bl i).flat = true := rfl
@[simp] theorem flat_non : (D.non).flat = true := rfl
@[simp] theorem flat_lst (xs) : (D.lst xs).flat = false := rfl
@[simp] theorem flat_tup (xs) : (D.tup xs).flat = false := rfl
@[simp] theorem flat1_lst (xs) : (D.lst xs).flat1 = xs.all D.flat := rfl
@[simp] theorem flat_ints (is : List Int) : ((is.map D.int).all D.flat) = true := by simp
@[simp] theorem init_mk (I : FI) (as) : I.init as = ⟨initEnv as 0 ++ List.replicate (I.N.length - as.length) none, initBs as⟩ := rfl
@[simp] theorem initEnv_nil (k) : initEnv [] k = [] := rfl
@[simp] theorem initEnv_val (d as k) : initEnv (.val d :: as) k = some (.shr d) :: initEnv as k := rfl
@[simp] theorem initEnv_bor (d as k) : initEnv (.bor d :: as) k = some (.bor k) :: initEnv as (k + 1) := rfl
@[simp] theorem initBs_nil : initBs [] = [] := rfl
@[simp] theorem initBs_val (d as) : initBs (.val d :: as) = initBs as := rfl
@[simp] theorem initBs_bor (d as) : initBs (.bor d :: as) = d :: initBs as := rfl
@[simp] theorem arg_val (d) : (Arg.val d).m = false := rfl
@[simp] theorem arg_bor (d) : (Arg.bor d).m = true := rfl
@[simp] theorem fn_nx (s) : (O.nx s).fn = .ret (.shr .non) s.bs := rfl
@[simp] theorem fn_shr (d s) : (O.rt (.shr d) s).fn = .ret (.shr d) s.bs := rfl
@[simp] theorem fn_own (d s) : (O.rt (.own d) s).fn = .ret (.own d) s.bs := rfl
@[simp] theorem fn_ex (c p s) : (O.ex c p s).fn = .ex c p s.bs := rfl
@[simp] theorem hs_nil (sub c p s) : exHs sub c p [] s = .nx s := rfl
@[simp] theorem hs_cons (sub c p h hs s) : exHs sub c p (h :: hs) s = (exH sub c p h s).bind fun s1 => exHs sub c p hs s1 := rfl
@[simp] theorem obind_nx (s : S) (f : S → O) : (O.nx s).bind f = f s := rfl
@[simp] theorem obind_rt (v) (s : S) (f : S → O) : (O.rt v s).bind f = .rt v s := rfl
@[simp] theorem obind_bk (s : S) (f : S → O) : (O.bk s).bind f = .bk s := rfl
@[simp] theorem obind_ct (s : S) (f : S → O) : (O.ct s).bind f = .ct s := rfl
@[simp] theorem obind_bad (f : S → O) : (O.bad).bind f = .bad := rfl
@[simp] theorem compG_none' (E t e w) : compG E t e w none = .bad := rfl
theorem step2_k (E w vs1 tg t tg1 itb t1 e acc s d) : comp2Step E w vs1 tg t tg1 itb t1 e acc s d = c2S E w vs1 t tg1 itb t1 e acc (S.asg tg d s) := rfl
@[simp] theorem foldRun_nil (b ok acc s) : foldRun b ok [] acc s = if ok s = true then .ok acc s else .bad := rfl
theorem foldRun_cons (b ok d ds acc s) : foldRun b ok (d :: ds) acc s = if ok s = true then foldNext (foldRun b ok ds) (b acc s d) else .bad := rfl
theorem step_k (E w tg t e s d) : compStep E w tg t e s d = compG E t e w (S.asg tg d s) := rfl
theorem fstep_k (E tg b s d) : forStep E tg b s d = forG E b (S.asg tg d s) := rfl
theorem looksB_k (ps ds s) : looksB ps ds s = decide (s.looks ps = some ds) := rfl
end Den
namespace Den
@[simp] theorem seqK_nil (E o) : seqK E [] o = o := by cases o <;> rfl
@[simp] theorem mulG_r (i j : Int) (h : -(2 ^ 64) < j ∧ j < 2 ^ 64) : mulG i j = true := decide_eq_true (.inr h)
@[simp] theorem mulG_l (i j : Int) (h : -(2 ^ 64) < i ∧ i < 2 ^ 64) : mulG i j = true := decide_eq_true (.inl h)
@[simp] theorem divG_lit (j : Int) (h : 0 < j ∧ j < 1073741824) : divG j = true := decide_eq_true h
end Den
namespace Den
open PySem
@[simp] theorem isD_non_bool : isD .non "bool" = some false := by rfl
@[simp] theorem isD_non_int : isD .non "int" = some false := by rfl
@[simp] theorem isD_non_str : isD .non "str" = some false := by rfl
@[simp] theorem isD_non_tuple : isD .non "tuple" = some false := by rfl
@[simp] theorem isD_non_list : isD .non "list" = some false := by rfl
@[simp] theorem isD_bl_bool (x : Bool) : isD (.bl x) "bool" = some true := by rfl
@[simp] theorem isD_bl_int (x : Bool) : isD (.bl x) "int" = some true := by rfl
@[simp] theorem isD_bl_str (x : Bool) : isD (.bl x) "str" = some false := by rfl
@[simp] theorem isD_bl_tuple (x : Bool) : isD (.bl x) "tuple" = some false := by rfl
@[simp] theorem isD_bl_list (x : Bool) : isD (.bl x) "list" = some false := by rfl
@[simp] theorem isD_int_bool (x : Int) : isD (.int x) "bool" = some false := by rfl
@[simp] theorem isD_int_int (x : Int) : isD (.int x) "int" = some true := by rfl
@[simp] theorem isD_int_str (x : Int) : isD (.int x) "str" = some false := by rfl
@[simp] theorem isD_int_tuple (x : Int) : isD (.int x) "tuple" = some false := by rfl
@[simp] theorem isD_int_list (x : Int) : isD (.int x) "list" = some false := by rfl
@[simp] theorem isD_str_bool (x : Str) : isD (.str x) "bool" = some false := by rfl
@[simp] theorem isD_str_int (x : Str) : isD (.str x) "int" = some false := by rfl
@[simp] theorem isD_str_str (x : Str) : isD (.str x) "str" = some true := by rfl
@[simp] theorem isD_str_tuple (x : Str) : isD (.str x) "tuple" = some false := by rfl
@[simp] theorem isD_str_list (x : Str) : isD (.str x) "list" = some false := by rfl
@[simp] theorem isD_lst_bool (x : List D) : isD (.lst x) "bool" = some false := by rfl
@[simp] theorem isD_lst_int (x : List D) : isD (.lst x) "int" = some false := by rfl
@[simp] theorem isD_lst_str (x : List D) : isD (.lst x) "str" = some false := by rfl
@[simp] theorem isD_lst_tuple (x : List D) : isD (.lst x) "tuple" = some false := by rfl
@[simp] theorem isD_lst_list (x : List D) : isD (.lst x) "list" = some true := by rfl
@[simp] theorem isD_tup_bool (x : List D) : isD (.tup x) "bool" = some false := by rfl
@[simp] theorem isD_tup_int (x : List D) : isD (.tup x) "int" = some false := by rfl
@[simp] theorem isD_tup_str (x : List D) : isD (.tup x) "str" = some false := by rfl
@[simp] theorem isD_tup_tuple (x : List D) : isD (.tup x) "tuple" = some true := by rfl
@[simp] theorem isD_tup_list (x : List D) : isD (.tup x) "list" = some false := by rfl
@[simp] theorem isD_dic_bool (x y : List D) : isD (.dic x y) "bool" = some false := by rfl
@[simp] theorem isD_dic_int (x y : List D) : isD (.dic x y) "int" = some false := by rfl
@[simp] theorem isD_dic_str (x y : List D) : isD (.dic x y) "str" = some false := by rfl
@[simp] theorem isD_dic_tuple (x y : List D) : isD (.dic x y) "tuple" = some false := by rfl
@[simp] theorem isD_dic_list (x y : List D) : isD (.dic x y) "list" = some false := by rfl
end Den
namespace Den
open PySem L2
def hRet : Option (D × S) → O
  | some (d, s1) => .rt (.shr d) s1
  | none => .bad
def hSet (i : Nat) : Option (D × S) → O
  | some (d, s1) => if i < s1.env.length then .nx (s1.put i (.shr d)) else .bad
  | none => .bad
@[simp] theorem hRet_s (d s) : hRet (some (d, s)) = .rt (.shr d) s := rfl
@[simp] theorem hSet_s (i d s) : hSet i (some (d, s)) = if i < s.env.length then .nx (s.put i (.shr d)) else .bad := rfl
section
variable (sub : Nat → Nat → Option Bool) (c : Nat) (p : List (Str × D)) (s : S)
@[simp] theorem exH_pass : exH sub c p .pass s = .nx s := rfl
@[simp] theorem exH_brk : exH sub c p .brk s = .bk s := rfl
@[simp] theorem exH_cont : exH sub c p .cont s = .ct s := rfl
@[simp] theorem exH_retn : exH sub c p .retn s = .rt (.shr .non) s := rfl
@[simp] theorem exH_ret (x) : exH sub c p (.ret x) s = hRet (evHX sub c p x s) := by
  show (match evHX sub c p x s with | some (d, s1) => O.rt (.shr d) s1 | none => .bad) = _
  cases evHX sub c p x s <;> rfl
@[simp] theorem exH_set (i x) : exH sub c p (.set i x) s = hSet i (evHX sub c p x s) := by
  show (match evHX sub c p x s with | some (d, s1) => if i < s1.env.length then O.nx (s1.put i (.shr d)) else .bad | none => .bad) = _
  cases evHX sub c p x s <;> rfl
@[simp] theorem exH_iff (b h g) : exH sub c p (.iff b h g) s = if p.isEmpty = true then match evBE sub c b with
    | some true => exHs sub c p h s
    | some false => exHs sub c p g s
    | none => .bad
    else .bad := rfl
@[simp] theorem evHX_lit (d) : evHX sub c p (.lit d) s = if d.flat = true then some (d, s) else none := rfl
@[simp] theorem evHX_var (i) : evHX sub c p (.var i) s = s.move i := rfl
@[simp] theorem evHX_be (b) : evHX sub c p (.be b) s = if p.isEmpty = true then (evBE sub c b).map fun b => (.bl b, s) else none := rfl
@[simp] theorem evBE_isc (k) : evBE sub c (.isc k) = sub c k := rfl
@[simp] theorem evBE_isv : evBE sub c .isv = (sub c c).map fun _ => true := rfl
@[simp] theorem evBE_not (a) : evBE sub c (.not a) = (evBE sub c a).map (!·) := rfl
@[simp] theorem evBE_and (a b) : evBE sub c (.and a b) = match evBE sub c a with
    | some true => evBE sub c b
    | o => o := rfl
@[simp] theorem evBE_or (a b) : evBE sub c (.or a b) = match evBE sub c a with
    | some false => evBE sub c b
    | o => o := rfl
@[simp] theorem evHX_inc (i k) : evHX sub c p (.inc i k) s = match s.look (.at i) with
    | some (.int j) => some (.int (j + k), s)
    | _ => none := rfl
@[simp] theorem evHX_tup (xs) : evHX sub c p (.tup xs) s = match evHXs sub c p xs s with
    | some (ds, s1) => if ds.length ≤ lim then some (.tup ds, s1) else none
    | none => none := rfl
@[simp] theorem evHXs_nil : evHXs sub c p [] s = some ([], s) := rfl
@[simp] theorem evHXs_cons (x xs) : evHXs sub c p (x :: xs) s = match evHX sub c p x s with
    | some (d, s1) => match evHXs sub c p xs s1 with
      | some (ds, s2) => some (d :: ds, s2)
      | none => none
    | none => none := rfl
end
end Den
namespace Den
@[simp] theorem le_lim (n : Nat) (h : n ≤ 1000000) : (n ≤ lim) = True := eq_true h
@[simp] theorem lt_lim (n : Nat) (h : n < 1000000) : (n < lim) = True := eq_true h
end Den
namespace Den
@[simp] theorem all_flat_ints (is : List Int) : is.all (D.flat ∘ D.int) = true := by
  induction is with
  | nil => rfl
  | cons i is ih => rw [List.all_cons, ih]; rfl
@[simp] theorem all_flat_nats (is : List Nat) (f : Nat → Int) : is.all (D.flat ∘ D.int ∘ f) = true := by
  induction is with
  | nil => rfl
  | cons i is ih => rw [List.all_cons, ih]; rfl
end Den

set_option Elab.async false
set_option linter.all false
set_option maxRecDepth 100000
set_option autoImplicit false
namespace Den
open PySem L2
/-! ### comprehensions -/
theorem compRun_pure {step : S → D → Out (Option D)} {ok : S → Bool} {s : S} {g : D → Option D} (hok : ok s = true) : ∀ {items acc : List D}, (∀ d ∈ items, step s d = .ok (g d) s) → acc.length + items.length ≤ lim → compRun step ok items acc s = .ok (acc ++ items.filterMap g) s
  | [], acc, _, _ => by simp [hok]
  | d :: ds, acc, h, hl => by
    rw [compRun_cons, if_pos hok, h d List.mem_cons_self]
    cases hg : g d with
    | none =>
      rw [compNext_none, compRun_pure hok (fun d hd => h d (List.mem_cons_of_mem _ hd)) (by simp at hl; omega)]
      simp [hg]
    | some e =>
      rw [compNext_some, if_pos (by simp at hl; omega), compRun_pure hok (fun d hd => h d (List.mem_cons_of_mem _ hd)) (by simp at hl ⊢; omega)]
      simp [hg]
/-- one value for each item -/
theorem compRun_map {step : S → D → Out (Option D)} {ok : S → Bool} {s : S} {g : D → D} (hok : ok s = true) {items acc : List D} (h : ∀ d ∈ items, step s d = .ok (some (g d)) s) (hl : acc.length + items.length ≤ lim) : compRun step ok items acc s = .ok (acc ++ items.map g) s := by
  rw [compRun_pure (g := fun d => some (g d)) hok h hl]
  simp
/-- .. over the image of a list -/
theorem compRun_mapL {α : Type} {step : S → D → Out (Option D)} {ok : S → Bool} {s : S} {f : α → D} {g : α → D} {xs : List α} {acc : List D} (hok : ok s = true) (h : ∀ x ∈ xs, step s (f x) = .ok (some (g x)) s) (hl : acc.length + xs.length ≤ lim) : compRun step ok (xs.map f) acc s = .ok (acc ++ xs.map g) s := by
  induction xs generalizing acc with
  | nil => simp [hok]
  | cons x xs ih =>
    rw [List.map_cons, compRun_cons, if_pos hok, h x List.mem_cons_self, compNext_some, if_pos (by simp at hl; omega), ih (fun y hy => h y (List.mem_cons_of_mem _ hy)) (by simp at hl ⊢; omega)]
    simp
theorem compRun_filL {α : Type} {step : S → D → Out (Option D)} {ok : S → Bool} {s : S} {f : α → D} {g : α → Option D} {xs : List α} {acc : List D} (hok : ok s = true) (h : ∀ x ∈ xs, step s (f x) = .ok (g x) s) (hl : acc.length + xs.length ≤ lim) : compRun step ok (xs.map f) acc s = .ok (acc ++ xs.filterMap g) s := by
  induction xs generalizing acc with
  | nil => simp [hok]
  | cons x xs ih =>
    rw [List.map_cons, compRun_cons, if_pos hok, h x List.mem_cons_self]
    cases hg : g x with
    | none => rw [compNext_none, ih (fun y hy => h y (List.mem_cons_of_mem _ hy)) (by simp at hl ⊢; omega)]; simp [hg]
    | some e =>
      rw [compNext_some, if_pos (by simp at hl; omega), ih (fun y hy => h y (List.mem_cons_of_mem _ hy)) (by simp at hl ⊢; omega)]
      simp [hg]
/-- the state goes along: P of what has been made -/
theorem compRun_inv {α : Type} {step : S → D → Out (Option D)} {ok : S → Bool} {f : α → D} {xs : List α} (P : List α → List D → S → Prop) (hok : ∀ pre out s, P pre out s → ok s = true)
    (hstep : ∀ pre x post out s, xs = pre ++ x :: post → P pre out s → (∃ e s', step s (f x) = .ok (some e) s' ∧ P (pre ++ [x]) (out ++ [e]) s') ∨ ∃ s', step s (f x) = .ok none s' ∧ P (pre ++ [x]) out s') {s : S} (h0 : P [] [] s) (hl : xs.length ≤ lim) :
    ∃ out s', compRun step ok (xs.map f) [] s = .ok out s' ∧ P xs out s' := by
  suffices ∀ (post pre : List α) (out : List D) (s : S), xs = pre ++ post → out.length ≤ pre.length → P pre out s → ∃ out' s', compRun step ok (post.map f) out s = .ok out' s' ∧ P xs out' s' from this xs [] [] s rfl (Nat.le_refl _) h0
  intro post
  induction post with
  | nil =>
    intro pre out s e _ p
    rw [List.append_nil] at e
    subst e
    exact ⟨out, s, by simp [hok _ _ _ p], p⟩
  | cons x post ih =>
    intro pre out s e lo p
    have hlim : out.length < lim := by
      have := congrArg List.length e
      simp at this
      omega
    rw [List.map_cons, compRun_cons, if_pos (hok _ _ _ p)]
    rcases hstep pre x post out s e p with ⟨v, s', q1, q2⟩ | ⟨s', q1, q2⟩
    · rw [q1, compNext_some, if_pos hlim]
      exact ih (pre ++ [x]) (out ++ [v]) s' (by simp [e]) (by simp; omega) q2
    · rw [q1, compNext_none]
      exact ih (pre ++ [x]) out s' (by simp [e]) (by simp; omega) q2
/-! ### loops -/
/-- what may become of a loop's turn -/
def Turn (N : S → Prop) (R : SV → S → Prop) (X : Nat → List (Str × D) → S → Prop) (B : S → Prop) : O → Prop
  | .nx s => N s
  | .ct s => N s
  | .bk s => B s
  | .rt v s => R v s
  | .ex c p s => X c p s
  | .bad => False
def End (N : S → Prop) (R : SV → S → Prop) (X : Nat → List (Str × D) → S → Prop) : O → Prop
  | .nx s => N s
  | .rt v s => R v s
  | .ex c p s => X c p s
  | _ => False
theorem forRun_inv {α : Type} {body : S → D → O} {ok : S → Bool} {w : List Nat} {f : α → D} {xs : List α} (P : List α → S → Prop) (R : SV → S → Prop) (X : Nat → List (Str × D) → S → Prop) (B : S → Prop) (hok : ∀ pre s, P pre s → ok s = true)
    (hstep : ∀ pre x post s, xs = pre ++ x :: post → P pre s → Turn (P (pre ++ [x])) R X B (body (s.wipe w) (f x))) {s : S} (h0 : P [] s) :
    End (fun s => ∃ s', s = s'.wipe w ∧ (P xs s' ∨ B s')) R X (forRun body ok w (xs.map f) s) := by
  suffices ∀ (post pre : List α) (s : S), xs = pre ++ post → P pre s → End (fun s => ∃ s', s = s'.wipe w ∧ (P xs s' ∨ B s')) R X (forRun body ok w (post.map f) s) from this xs [] s rfl h0
  intro post
  induction post with
  | nil =>
    intro pre s e p
    rw [List.append_nil] at e
    subst e
    rw [List.map_nil, forRun_nil, if_pos (hok _ _ p)]
    exact ⟨s, rfl, .inl p⟩
  | cons x post ih =>
    intro pre s e p
    rw [List.map_cons, forRun_cons, if_pos (hok _ _ p)]
    have q := hstep pre x post s e p
    cases hb : body (s.wipe w) (f x) with
    | nx s' => rw [hb] at q; exact ih (pre ++ [x]) s' (by simp [e]) q
    | ct s' => rw [hb] at q; exact ih (pre ++ [x]) s' (by simp [e]) q
    | bk s' => rw [hb] at q; exact ⟨s', rfl, .inr q⟩
    | rt v s' => rw [hb] at q; exact q
    | ex c p s' => rw [hb] at q; exact q
    | bad => rw [hb] at q; exact q
/-- a loop that runs through -/
theorem forRun_thru {α : Type} {body : S → D → O} {ok : S → Bool} {w : List Nat} {f : α → D} {xs : List α} (P : List α → S → Prop) (hok : ∀ pre s, P pre s → ok s = true)
    (hstep : ∀ pre x post s, xs = pre ++ x :: post → P pre s → ∃ s', body (s.wipe w) (f x) = .nx s' ∧ P (pre ++ [x]) s') {s : S} (h0 : P [] s) :
    ∃ s', forRun body ok w (xs.map f) s = .nx (s'.wipe w) ∧ P xs s' := by
  have := forRun_inv (body := body) (ok := ok) (w := w) (f := f) (xs := xs) P (fun _ _ => False) (fun _ _ _ => False) (fun _ => False) hok (fun pre x post s e p => by
    obtain ⟨s', h1, h2⟩ := hstep pre x post s e p
    rw [h1]; exact h2) h0
  cases hb : forRun body ok w (xs.map f) s with
  | nx s' =>
    rw [hb] at this
    obtain ⟨s2, e, h⟩ := this
    exact ⟨s2, by rw [e], h.resolve_right id⟩
  | ct s' => rw [hb] at this; exact this.elim
  | bk s' => rw [hb] at this; exact this.elim
  | rt v s' => rw [hb] at this; exact this.elim
  | ex c p s' => rw [hb] at this; exact this.elim
  | bad => rw [hb] at this; exact this.elim
/-- a loop that gives up at the first item of which t says so -/
theorem forRun_all {α : Type} {body : S → D → O} {ok : S → Bool} {w : List Nat} {f : α → D} {xs : List α} (t : α → Bool) {s : S} {v : SV} {s2 : S} (hok : ok s = true) (hw : s.wipe w = s)
    (hyes : ∀ x ∈ xs, t x = true → ∃ s', body s (f x) = .nx s' ∧ s'.wipe w = s ∧ ok s' = true) (hno : ∀ x ∈ xs, t x = false → ∃ s', body s (f x) = .rt v s' ∧ s'.bs = s2.bs) :
    (xs.all t = true ∧ forRun body ok w (xs.map f) s = .nx s) ∨ (xs.all t = false ∧ ∃ s', forRun body ok w (xs.map f) s = .rt v s' ∧ s'.bs = s2.bs) := by
  suffices ∀ (xs' : List α) (s0 : S), (∀ x ∈ xs', x ∈ xs) → s0.wipe w = s → ok s0 = true → (xs'.all t = true ∧ forRun body ok w (xs'.map f) s0 = .nx s) ∨ (xs'.all t = false ∧ ∃ s', forRun body ok w (xs'.map f) s0 = .rt v s' ∧ s'.bs = s2.bs) from this xs s (fun _ h => h) hw hok
  intro xs'
  induction xs' with
  | nil => intro s0 _ e o; exact .inl ⟨rfl, by rw [List.map_nil, forRun_nil, if_pos o, e]⟩
  | cons x xs' ih =>
    intro s0 hm e o
    rw [List.map_cons, forRun_cons, if_pos o, e]
    cases ht : t x with
    | true =>
      obtain ⟨s', h1, h2, h3⟩ := hyes x (hm x List.mem_cons_self) ht
      rw [h1, loopNext_nx]
      rcases ih s' (fun y hy => hm y (List.mem_cons_of_mem _ hy)) h2 h3 with ⟨a, b⟩ | ⟨a, b⟩
      · exact .inl ⟨by simp [ht, a], b⟩
      · exact .inr ⟨by simp [ht, a], b⟩
    | false =>
      obtain ⟨s', h1, h2⟩ := hno x (hm x List.mem_cons_self) ht
      rw [h1, loopNext_rt]
      exact .inr ⟨by simp [ht], s', rfl, h2⟩
/-! .. of which h tells -/
section
variable {α : Type} {body : S → D → O} {ok : S → Bool} {w : List Nat} {f : α → D} {xs : List α} {s : S} {o : O}
theorem for_thru (h : forRun body ok w (xs.map f) s = o) (P : List α → S → Prop) (h0 : P [] s) (hok : ∀ pre s, P pre s → ok s = true)
    (hstep : ∀ pre x post s, xs = pre ++ x :: post → P pre s → ∃ s', body (s.wipe w) (f x) = .nx s' ∧ P (pre ++ [x]) s') : ∃ s', o = .nx (s'.wipe w) ∧ P xs s' := by
  rw [← h]; exact forRun_thru P hok hstep h0
theorem for_inv (h : forRun body ok w (xs.map f) s = o) (P : List α → S → Prop) (R : SV → S → Prop) (X : Nat → List (Str × D) → S → Prop) (B : S → Prop) (h0 : P [] s) (hok : ∀ pre s, P pre s → ok s = true)
    (hstep : ∀ pre x post s, xs = pre ++ x :: post → P pre s → Turn (P (pre ++ [x])) R X B (body (s.wipe w) (f x))) : End (fun s => ∃ s', s = s'.wipe w ∧ (P xs s' ∨ B s')) R X o := by
  rw [← h]; exact forRun_inv P R X B hok hstep h0
theorem for_all (h : forRun body ok w (xs.map f) s = o) (t : α → Bool) {v : SV} (hok : ok s = true) (hw : s.wipe w = s)
    (hyes : ∀ x ∈ xs, t x = true → ∃ s', body s (f x) = .nx s' ∧ s'.wipe w = s ∧ ok s' = true) (hno : ∀ x ∈ xs, t x = false → ∃ s', body s (f x) = .rt v s' ∧ s'.bs = s.bs) :
    (xs.all t = true ∧ o = .nx s) ∨ (xs.all t = false ∧ ∃ s', o = .rt v s' ∧ s'.bs = s.bs) := by
  rw [← h]; exact forRun_all t hok hw hyes hno
end
section
variable {α : Type} {step : S → D → Out (Option D)} {ok : S → Bool} {f : α → D} {xs : List α} {s : S} {o : Out (List D)}
theorem comp_map (h : compRun step ok (xs.map f) [] s = o) (g : α → D) (hok : ok s = true) (hs : ∀ x ∈ xs, step s (f x) = .ok (some (g x)) s) (hl : xs.length ≤ lim) : o = .ok (xs.map g) s := by
  rw [← h, compRun_mapL hok hs (by simpa using hl)]; rfl
theorem comp_fil (h : compRun step ok (xs.map f) [] s = o) (g : α → Option D) (hok : ok s = true) (hs : ∀ x ∈ xs, step s (f x) = .ok (g x) s) (hl : xs.length ≤ lim) : o = .ok (xs.filterMap g) s := by
  rw [← h, compRun_filL hok hs (by simpa using hl)]; rfl
theorem comp_inv (h : compRun step ok (xs.map f) [] s = o) (P : List α → List D → S → Prop) (h0 : P [] [] s) (hok : ∀ pre out s, P pre out s → ok s = true)
    (hstep : ∀ pre x post out s, xs = pre ++ x :: post → P pre out s → (∃ e s', step s (f x) = .ok (some e) s' ∧ P (pre ++ [x]) (out ++ [e]) s') ∨ ∃ s', step s (f x) = .ok none s' ∧ P (pre ++ [x]) out s') (hl : xs.length ≤ lim) :
    ∃ out s', o = .ok out s' ∧ P xs out s' := by
  rw [← h]; exact compRun_inv P hok hstep h0 hl
end
/-! ### equality -/
mutual
/-- None, bools, ints, texts, lists, tuples -/
def D.data : D → Bool
  | .non => true | .bl _ => true | .int _ => true
  | .str z => PyData.strOk z
  | .lst xs => D.datas xs
  | .tup xs => D.datas xs
  | _ => false
def D.datas : List D → Bool
  | [] => true
  | x :: xs => D.data x && D.datas xs
end
mutual
/-- .. without bools -/
def D.nob : D → Bool
  | .non => true | .int _ => true
  | .str z => PyData.strOk z
  | .lst xs => D.nobs xs
  | .tup xs => D.nobs xs
  | _ => false
def D.nobs : List D → Bool
  | [] => true
  | x :: xs => D.nob x && D.nobs xs
end
mutual
def D.dep : D → Nat
  | .lst xs => D.deps xs + 1
  | .tup xs => D.deps xs + 1
  | _ => 0
def D.deps : List D → Nat
  | [] => 0
  | x :: xs => max (D.dep x) (D.deps xs)
end
mutual
theorem nob_eqv : ∀ d e : D, d.nob = true → e.nob = true → D.eqv d e = decide (d = e)
  | .non, e, h, g => by cases e <;> first | (exact Bool.noConfusion g) | rfl
  | .bl b, e, h, g => Bool.noConfusion h
  | .int i, e, h, g => by
    cases e <;> first | (exact Bool.noConfusion g) | rfl | skip
    rename_i j
    show (i == j) = decide (D.int i = D.int j)
    rw [Bool.eq_iff_iff]; simp
  | .str i, e, h, g => by
    cases e <;> first | (exact Bool.noConfusion g) | rfl | skip
    rename_i j
    show (i == j) = decide (D.str i = D.str j)
    rw [Bool.eq_iff_iff]; simp
  | .lst xs, e, h, g => by
    cases e <;> first | (exact Bool.noConfusion g) | rfl | skip
    rename_i ys
    have := nobs_eqv xs ys h g
    show PyData.eqvAll (D.pys xs) (D.pys ys) = decide (D.lst xs = D.lst ys)
    rw [this, Bool.eq_iff_iff]; simp
  | .tup xs, e, h, g => by
    cases e <;> first | (exact Bool.noConfusion g) | rfl | skip
    rename_i ys
    have := nobs_eqv xs ys h g
    show PyData.eqvAll (D.pys xs) (D.pys ys) = decide (D.tup xs = D.tup ys)
    rw [this, Bool.eq_iff_iff]; simp
  | .frl _, e, h, g => Bool.noConfusion h
  | .dic _ _, e, h, g => Bool.noConfusion h
  | .obj _ _ _, e, h, g => Bool.noConfusion h
theorem nobs_eqv : ∀ xs ys : List D, D.nobs xs = true → D.nobs ys = true → PyData.eqvAll (D.pys xs) (D.pys ys) = decide (xs = ys)
  | [], [], _, _ => rfl
  | [], _ :: _, _, _ => rfl
  | _ :: _, [], _, _ => rfl
  | x :: xs, y :: ys, h, g => by
    unfold D.nobs at h g
    rw [Bool.and_eq_true] at h g
    have a := nob_eqv x y h.1 g.1
    have b := nobs_eqv xs ys h.2 g.2
    unfold D.eqv at a
    show (PyData.eqv x.py y.py && PyData.eqvAll (D.pys xs) (D.pys ys)) = _
    rw [a, b, Bool.eq_iff_iff]
    simp
end
mutual
theorem data_lay : ∀ d : D, d.data = true → d.py.canLay0 = true ∧ d.py.depth ≤ d.dep
  | .non, h => ⟨rfl, Nat.le_refl _⟩
  | .bl b, h => ⟨rfl, Nat.le_refl _⟩
  | .int i, h => ⟨rfl, Nat.le_refl _⟩
  | .str i, h => ⟨by show (PyData.str i).canLay0 = true; simp only [PyData.canLay0]; exact h, Nat.le_refl _⟩
  | .lst xs, h => by
    obtain ⟨a, b⟩ := datas_lay xs h
    refine ⟨by show (PyData.list (D.pys xs)).canLay0 = true; simp only [PyData.canLay0]; exact a, ?_⟩
    show (PyData.list (D.pys xs)).depth ≤ D.deps xs + 1
    simp only [PyData.depth]; omega
  | .tup xs, h => by
    obtain ⟨a, b⟩ := datas_lay xs h
    refine ⟨by show (PyData.tuple (D.pys xs)).canLay0 = true; simp only [PyData.canLay0]; exact a, ?_⟩
    show (PyData.tuple (D.pys xs)).depth ≤ D.deps xs + 1
    simp only [PyData.depth]; omega
  | .frl _, h => Bool.noConfusion h
  | .dic _ _, h => Bool.noConfusion h
  | .obj _ _ _, h => Bool.noConfusion h
theorem datas_lay : ∀ xs : List D, D.datas xs = true → PyData.canLayAll0 (D.pys xs) = true ∧ PyData.depthAll (D.pys xs) ≤ D.deps xs
  | [], _ => ⟨rfl, Nat.le_refl _⟩
  | x :: xs, h => by
    unfold D.datas at h
    rw [Bool.and_eq_true] at h
    obtain ⟨a, b⟩ := data_lay x h.1
    obtain ⟨c, d⟩ := datas_lay xs h.2
    refine ⟨by show PyData.canLayAll0 (x.py :: D.pys xs) = true; simp only [PyData.canLayAll0, a, c]; rfl, ?_⟩
    show PyData.depthAll (x.py :: D.pys xs) ≤ max (D.dep x) (D.deps xs)
    simp only [PyData.depthAll]; omega
end
theorem data_okq {d : D} (h : d.data = true) (n : d.dep ≤ 60) : d.okq = true := by
  obtain ⟨a, b⟩ := data_lay d h
  unfold D.okq SeqAt.shaped
  rw [a, decide_eq_true (by omega)]; rfl
mutual
theorem nob_data : ∀ d : D, d.nob = true → d.data = true
  | .non, h => rfl
  | .bl b, h => rfl
  | .int i, h => rfl
  | .str i, h => h
  | .lst xs, h => nobs_data xs h
  | .tup xs, h => nobs_data xs h
  | .frl _, h => h
  | .dic _ _, h => h
  | .obj _ _ _, h => h
theorem nobs_data : ∀ xs : List D, D.nobs xs = true → D.datas xs = true
  | [], _ => rfl
  | x :: xs, h => by
    unfold D.nobs at h
    rw [Bool.and_eq_true] at h
    show (D.data x && D.datas xs) = true
    rw [nob_data x h.1, nobs_data xs h.2]; rfl
end
theorem nob_scal {d e : D} (h : D.scal d e = true) : True := trivial
/-- == of data without bools -/
theorem eqq_nob {d e : D} (h : d.nob = true) (g : e.nob = true) (n : d.dep ≤ 60) (m : e.dep ≤ 60) : D.eqq d e = some (decide (d = e)) := by
  unfold D.eqq
  split
  · rfl
  · rw [data_okq (nob_data d h) n, data_okq (nob_data e g) m, nob_eqv d e h g]; rfl
@[simp] theorem eqq_int (i j : Int) : D.eqq (.int i) (.int j) = some (decide (i = j)) := by
  unfold D.eqq
  rw [if_pos (by rfl)]
  congr 1
  rw [Bool.eq_iff_iff]; simp
@[simp] theorem eqq_str (i j : Str) : D.eqq (.str i) (.str j) = some (decide (i = j)) := by
  unfold D.eqq
  rw [if_pos (by rfl)]
  congr 1
  rw [Bool.eq_iff_iff]; simp
@[simp] theorem eqq_bl (i j : Bool) : D.eqq (.bl i) (.bl j) = some (decide (i = j)) := by
  unfold D.eqq
  rw [if_pos (by rfl)]
  congr 1
  rw [Bool.eq_iff_iff]; simp
@[simp] theorem nobs_ints (is : List Int) : D.nobs (is.map .int) = true := by
  induction is with
  | nil => rfl
  | cons i is ih => show (true && D.nobs (is.map .int)) = true; rw [ih]; rfl
@[simp] theorem nob_ints (is : List Int) : (D.lst (is.map .int)).nob = true := nobs_ints is
@[simp] theorem deps_ints (is : List Int) : D.deps (is.map .int) = 0 := by
  induction is with
  | nil => rfl
  | cons i is ih => show max 0 (D.deps (is.map .int)) = 0; rw [ih]; rfl
theorem dep_ints (is : List Int) : (D.lst (is.map .int)).dep = 1 := by show D.deps (is.map .int) + 1 = 1; rw [deps_ints]
theorem map_int_inj {is js : List Int} : is.map D.int = js.map D.int ↔ is = js := by
  constructor
  · intro h
    induction is generalizing js with
    | nil => cases js with
      | nil => rfl
      | cons _ _ => cases h
    | cons i is ih => cases js with
      | nil => cases h
      | cons j js =>
        simp only [List.map_cons, List.cons.injEq, D.int.injEq] at h
        rw [h.1, ih h.2]
  · intro h; rw [h]
@[simp] theorem eqq_ints (is js : List Int) : D.eqq (.lst (is.map .int)) (.lst (js.map .int)) = some (decide (is = js)) := by
  rw [eqq_nob (nob_ints is) (nob_ints js) (by rw [dep_ints]; omega) (by rw [dep_ints]; omega)]
  congr 1
  rw [Bool.eq_iff_iff]; simp [map_int_inj]
@[simp] theorem ints_ok (is : List Int) : D.ints (is.map .int) = some is := by
  induction is with
  | nil => rfl
  | cons i is ih => show (D.ints (is.map .int)).map _ = _; rw [ih]; rfl
@[simp] theorem bls_ok (is : List Bool) : D.bls (is.map .bl) = some is := by
  induction is with
  | nil => rfl
  | cons i is ih => show (D.bls (is.map .bl)).map _ = _; rw [ih]; rfl
/-! ### places -/
theorem ixI_nat {α : Type} (xs : List α) (k : Nat) : ixI xs (k : Int) = xs[k]? := by
  unfold ixI atI ixN
  by_cases h : k < xs.length
  · simp [h]
  · have : xs[k]? = none := List.getElem?_eq_none (by omega)
    rw [this]
    simp
    omega
theorem cutG_all {α : Type} (xs : List α) : cutG xs none none = xs := by
  unfold cutG
  simp [HT.sIx]
theorem cutG_from {α : Type} (xs : List α) (k : Nat) : cutG xs (some (k : Int)) none = xs.drop k := by
  unfold cutG
  rw [HT.sIx_none, HT.sIx_nat]
  by_cases h : k ≤ xs.length
  · rw [Nat.min_eq_left h, List.take_of_length_le (by simp)]
  · rw [Nat.min_eq_right (by omega), List.drop_eq_nil_of_le (Nat.le_refl _), List.drop_eq_nil_of_le (by omega)]; simp
theorem cutG_to {α : Type} (xs : List α) (k : Nat) : cutG xs none (some (k : Int)) = xs.take k := by
  unfold cutG
  rw [HT.sIx_none, HT.sIx_nat]
  simp
/-! ### two walks -/
theorem foldNext_ok (k acc s) : foldNext k (.ok acc s) = k acc s := rfl
theorem fold_mapL {α : Type} {step : List D → S → D → Out (List D)} {ok : S → Bool} {f : α → D} (g : α → List D) (B : Nat) {s : S} (hok : ok s = true) : ∀ (xs : List α) (acc : List D), (acc ++ xs.flatMap g).length ≤ B → (∀ x ∈ xs, ∀ acc : List D, (acc ++ g x).length ≤ B → step acc s (f x) = .ok (acc ++ g x) s) → foldRun step ok (xs.map f) acc s = .ok (acc ++ xs.flatMap g) s
  | [], acc, _, _ => by rw [List.map_nil, foldRun_nil, if_pos hok]; simp
  | x :: xs, acc, hl, hs => by
    rw [List.map_cons, foldRun_cons, if_pos hok]
    have e : acc ++ (x :: xs).flatMap g = (acc ++ g x) ++ xs.flatMap g := by simp
    rw [e] at hl ⊢
    rw [hs x List.mem_cons_self acc (by simp at hl ⊢; omega), foldNext_ok]
    exact fold_mapL g B hok xs (acc ++ g x) hl fun y hy => hs y (List.mem_cons_of_mem _ hy)
/-- [e for a in xs for b in ys] that changes nothing -/
theorem fold_map {α : Type} {step : List D → S → D → Out (List D)} {ok : S → Bool} {f : α → D} {xs : List α} {s : S} {o : Out (List D)} (h : foldRun step ok (xs.map f) [] s = o) (g : α → List D) (hok : ok s = true) (hl : (xs.flatMap g).length ≤ lim)
    (hs : ∀ x ∈ xs, ∀ acc : List D, (acc ++ g x).length ≤ lim → step acc s (f x) = .ok (acc ++ g x) s) : o = .ok (xs.flatMap g) s := by
  rw [← h]
  have := fold_mapL g lim hok xs [] (by simpa using hl) hs
  simpa using this
/-- the inner walk, behind what was found -/
theorem comp_acc {α : Type} {step : S → D → Out (Option D)} {ok : S → Bool} {f : α → D} {s : S} (g : α → D) (hok : ok s = true) : ∀ (xs : List α) (acc : List D), (acc ++ xs.map g).length ≤ lim → (∀ x ∈ xs, step s (f x) = .ok (some (g x)) s) → compRun step ok (xs.map f) acc s = .ok (acc ++ xs.map g) s
  | [], acc, _, _ => by rw [List.map_nil, compRun_nil, if_pos hok]; simp
  | x :: xs, acc, hl, hs => by
    rw [List.map_cons, compRun_cons, if_pos hok, hs x List.mem_cons_self, compNext_some, if_pos (by simp at hl; omega)]
    rw [comp_acc g hok xs (acc ++ [g x]) (by simpa using hl) fun y hy => hs y (List.mem_cons_of_mem _ hy)]
    simp
/-! ### the first that .. -/
theorem for_find {α : Type} {body : S → D → O} {ok : S → Bool} {w : List Nat} {f : α → D} {xs : List α} {s : S} {o : O} (h : forRun body ok w (xs.map f) s = o) (t : α → Bool) (v : α → SV) (hok : ok s = true) (hw : s.wipe w = s)
    (hno : ∀ x ∈ xs, t x = false → ∃ s', body s (f x) = .nx s' ∧ s'.wipe w = s ∧ ok s' = true) (hyes : ∀ x ∈ xs, t x = true → ∃ s', body s (f x) = .rt (v x) s' ∧ s'.bs = s.bs) :
    (xs.find? t = none ∧ o = .nx s) ∨ ∃ x, xs.find? t = some x ∧ ∃ s', o = .rt (v x) s' ∧ s'.bs = s.bs := by
  subst h
  suffices ∀ (xs' : List α) (s0 : S), (∀ x ∈ xs', x ∈ xs) → s0.wipe w = s → ok s0 = true → (xs'.find? t = none ∧ forRun body ok w (xs'.map f) s0 = .nx s) ∨ ∃ x, xs'.find? t = some x ∧ ∃ s', forRun body ok w (xs'.map f) s0 = .rt (v x) s' ∧ s'.bs = s.bs from this xs s (fun _ h => h) hw hok
  intro xs'
  induction xs' with
  | nil => intro s0 _ e o; exact .inl ⟨rfl, by rw [List.map_nil, forRun_nil, if_pos o, e]⟩
  | cons x xs' ih =>
    intro s0 hm e o
    rw [List.map_cons, forRun_cons, if_pos o, e]
    cases ht : t x with
    | false =>
      obtain ⟨s', h1, h2, h3⟩ := hno x (hm x List.mem_cons_self) ht
      rw [h1, loopNext_nx, List.find?_cons_of_neg (by rw [ht]; exact Bool.false_ne_true)]
      exact ih s' (fun y hy => hm y (List.mem_cons_of_mem _ hy)) h2 h3
    | true =>
      obtain ⟨s', h1, h2⟩ := hyes x (hm x List.mem_cons_self) ht
      rw [h1, loopNext_rt, List.find?_cons_of_pos ht]
      exact .inr ⟨x, rfl, s', rfl, h2⟩
theorem all_flat (is : List Int) : (is.map D.int).all D.flat = true := by simp [D.flat]
@[simp] theorem isin_ints (c : Int) (is : List Int) : D.isin (.int c) (is.map .int) = some (is.contains c) := by
  unfold D.isin
  rw [all_flat]
  show some ((is.map D.int).any fun y => D.eqv y (.int c)) = _
  congr 1
  rw [List.any_map, Bool.eq_iff_iff]
  simp
  constructor
  · rintro ⟨x, h1, h2⟩
    rw [nob_eqv _ _ rfl rfl] at h2
    simp at h2
    exact h2 ▸ h1
  · intro h
    exact ⟨c, h, by rw [nob_eqv _ _ rfl rfl]; simp⟩
end Den
set_option Elab.async false
set_option linter.all false
set_option maxRecDepth 100000
set_option autoImplicit false
set_option maxHeartbeats 4000000
namespace Den
open PySem PySem.Spec PyProof.Rows L2
/-! ### form_of_rows: the tables of the last row, one in the other -/
/-- what stands in a table: the rows beside the last one, and the last one with its inner table -/
def tVal : List (List D × D) → List D → List D
  | [], last => last
  | f :: fs, last => f.1 ++ [.tup [f.2, .lst (tVal fs last)]]
section
variable {K : PySem.W.Frag} {CA : Nat → Option Addr}
def SpOk (K : PySem.W.Frag) (CA : Nat → Option Addr) (G H : Hp) : List (List D × D) → List D → List Addr → List Addr → Prop
  | [], last, as, ps => ∃ a vs, as = [a] ∧ ps = [] ∧ H a = some (.lst vs) ∧ Reps K CA G vs last
  | f :: fs, last, as, ps => ∃ a b as' p ps' vs cv, as = a :: b :: as' ∧ ps = p :: ps' ∧ H a = some (.lst (vs ++ [.ref p])) ∧ Reps K CA G vs f.1 ∧ H p = some (.tup [cv, .ref b]) ∧ Rep K CA G cv f.2 ∧ SpOk K CA G H fs last (b :: as') ps'
theorem sp_len {G H : Hp} : ∀ {fs : List (List D × D)} {last : List D} {as ps : List Addr}, SpOk K CA G H fs last as ps → as.length = fs.length + 1 ∧ ps.length = fs.length
  | [], last, as, ps, ⟨a, vs, e1, e2, _⟩ => by subst e1 e2; exact ⟨rfl, rfl⟩
  | f :: fs, last, as, ps, ⟨a, b, as', p, ps', vs, cv, e1, e2, _, _, _, _, t⟩ => by
    subst e1 e2
    obtain ⟨x, y⟩ := sp_len t
    simp at x y ⊢
    omega
/-- all of it frozen -/
theorem sp_rep {G H G' : Hp} (hG : Ex G G') : ∀ {fs : List (List D × D)} {last : List D} {as ps : List Addr}, SpOk K CA G H fs last as ps → (∀ x ∈ as, G' x = H x) → (∀ x ∈ ps, G' x = H x) → ∃ a, as.head? = some a ∧ Rep K CA G' (.ref a) (.lst (tVal fs last))
  | [], last, as, ps, ⟨a, vs, e1, e2, h, r⟩, ha, hp => by
    subst e1 e2
    exact ⟨a, rfl, .lst ((ha a (by simp)).trans h) (r.mono hG)⟩
  | f :: fs, last, as, ps, ⟨a, b, as', p, ps', vs, cv, e1, e2, h, r, hp', rc, t⟩, ha, hp => by
    subst e1 e2
    obtain ⟨b', e, rb⟩ := sp_rep hG t (fun x hx => ha x (List.mem_cons_of_mem _ hx)) (fun x hx => hp x (List.mem_cons_of_mem _ hx))
    cases e
    refine ⟨a, rfl, .lst ((ha a (by simp)).trans h) ((r.mono hG).append (.one (.tup (Evl.st_of ((hp p (by simp)).trans hp')) (.cons (rc.mono hG) (.one rb)))))⟩
/-- a row comes at the level L: what lies below is frozen, the row goes behind -/
theorem sp_step {G H G' : Hp} (hG : Ex G G') : ∀ {fs : List (List D × D)} {last : List D} {as ps : List Addr} {L : Nat}, SpOk K CA G H fs last as ps → L ≤ fs.length → (∀ x ∈ as.drop (L + 1), G' x = H x) → (∀ x ∈ ps.drop L, G' x = H x) →
    ∃ aL vsL, as[L]? = some aL ∧ H aL = some (.lst vsL) ∧ Reps K CA G' vsL (tVal (fs.drop L) last) ∧ ∀ (H2 : Hp) (q p' : Addr) (cv : V) (c : D), (∀ x ∈ as.take L, H2 x = H x) → (∀ x ∈ ps.take L, H2 x = H x) → H2 aL = some (.lst (vsL ++ [.ref p'])) → H2 p' = some (.tup [cv, .ref q]) → H2 q = some (.lst []) → Rep K CA G' cv c →
      SpOk K CA G' H2 (fs.take L ++ [(tVal (fs.drop L) last, c)]) [] (as.take (L + 1) ++ [q]) (ps.take L ++ [p'])
  | [], last, as, ps, L, ⟨a, vs, e1, e2, h, r⟩, hL, ha, hp => by
    subst e1 e2
    have : L = 0 := by simpa using hL
    subst this
    exact ⟨a, vs, rfl, h, r.mono hG, fun H2 q p' cv c _ _ h1 h2 h3 rc => ⟨a, q, [], p', [], vs, cv, rfl, rfl, h1, r.mono hG, h2, rc, ⟨q, [], rfl, rfl, h3, .nil⟩⟩⟩
  | f :: fs, last, as, ps, 0, ⟨a, b, as', p, ps', vs, cv, e1, e2, h, r, hp', rc, t⟩, hL, ha, hp => by
    subst e1 e2
    obtain ⟨b', e, rb⟩ := sp_rep hG t (fun x hx => ha x (by simpa using hx)) (fun x hx => hp x (by simp [hx]))
    cases e
    have rr : Reps K CA G' (vs ++ [.ref p]) (tVal (f :: fs) last) := (r.mono hG).append (.one (.tup (Evl.st_of ((hp p (by simp)).trans hp')) (.cons (rc.mono hG) (.one rb))))
    exact ⟨a, vs ++ [.ref p], rfl, h, rr, fun H2 q p' cv' c _ _ h1 h2 h3 rc' => ⟨a, q, [], p', [], vs ++ [.ref p], cv', rfl, rfl, h1, rr, h2, rc', ⟨q, [], rfl, rfl, h3, .nil⟩⟩⟩
  | f :: fs, last, as, ps, L + 1, ⟨a, b, as', p, ps', vs, cv, e1, e2, h, r, hp', rc, t⟩, hL, ha, hp => by
    subst e1 e2
    obtain ⟨aL, vsL, g1, g2, g3, g4⟩ := sp_step hG (L := L) t (by simpa using hL) (fun x hx => ha x (by simpa using hx)) (fun x hx => hp x (by simpa using hx))
    refine ⟨aL, vsL, by simpa using g1, g2, g3, fun H2 q p' cv' c k1 k2 h1 h2 h3 rc' => ?_⟩
    have tt := g4 H2 q p' cv' c (fun x hx => k1 x (by simp [hx])) (fun x hx => k2 x (by simp [hx])) h1 h2 h3 rc'
    have e : (b :: as').take (L + 1) ++ [q] = b :: (as'.take L ++ [q]) := by simp
    rw [e] at tt
    refine ⟨a, b, as'.take L ++ [q], p, ps'.take L ++ [p'], vs, cv, by simp, by simp, (k1 a (by simp)).trans h, r.mono hG, (k2 p (by simp)).trans hp', rc.mono hG, tt⟩
end
end Den
set_option Elab.async false
set_option linter.all false
set_option maxRecDepth 100000
set_option autoImplicit false
set_option maxHeartbeats 4000000
namespace Den
open PySem PySem.Spec PyProof.Rows L2
/-- what form_of_rows answers; e: the place of its error -/
def rowsGo (e : Nat) : List D → List (List D × D) → List D → OF
  | [], fs, last => .ret (.own (.lst (tVal fs last))) []
  | .tup [.int L, c] :: rs, fs, last => if 0 ≤ L ∧ L < fs.length + 1 then (if (tVal (fs.drop L.toNat) last).length < lim ∧ fs.length + 1 < lim then rowsGo e rs (fs.take L.toNat ++ [(tVal (fs.drop L.toNat) last, c)]) [] else .bad) else .ex e [] []
  | _ :: _, _, _ => .bad
def formG (e : Nat) : List Arg → OF
  | [.val (.lst rows)] => rowsGo e rows [] []
  | _ => .bad
section
variable {K : PySem.W.Frag} {CA : Nat → Option Addr}
structure FInv (K : PySem.W.Frag) (CA : Nat → Option Addr) (B H : Hp) (e : Nat) (Q : VK) (E : XK) (G H' : Hp) (a0 t : Addr) (fs : List (List D × D)) (last : List D) (as ps : List Addr) (rows : List D) : Prop where
  bg : Ex B G
  gh : Ex G H'
  keep : Ex H H'
  new : ∀ a, G a ≠ none → B a ≠ none ∨ H a = none
  sp : SpOk K CA G H' fs last as ps
  nd : (as ++ ps).Nodup
  fr : ∀ x, x ∈ as ++ ps → G x = none ∧ H x = none
  hd : as.head? = some a0
  tt : H' t = some (.lst (as.map V.ref))
  tn : t ∉ as
  en : EndF K CA B H [] Q E (rowsGo e rows fs last)
theorem upd_keep {H : Hp} {a b : Addr} {o u : HO} (h : H b = some o) (n : H a = none) : upd H a u b = some o := by
  rw [upd_ne (fun z => by rw [z, n] at h; cases h)]; exact h
theorem sp_there {G H : Hp} : ∀ {fs : List (List D × D)} {last : List D} {as ps : List Addr}, SpOk K CA G H fs last as ps → ∀ x ∈ as ++ ps, ∃ o, H x = some o
  | [], last, as, ps, ⟨a, vs, e1, e2, h, r⟩, x, hx => by
    subst e1 e2
    rw [show x = a by simpa using hx]; exact ⟨_, h⟩
  | f :: fs, last, as, ps, ⟨a, b, as', p, ps', vs, cv, e1, e2, h, r, hp', rc, t⟩, x, hx => by
    subst e1 e2
    have ih := sp_there t
    simp at hx
    rcases hx with rfl | rfl | hx | rfl | hx
    · exact ⟨_, h⟩
    · exact ih x (by simp)
    · exact ih x (by simp [hx])
    · exact ⟨_, hp'⟩
    · exact ih x (by simp [hx])
theorem none_of_ex {G H : Hp} (x : Ex G H) {a : Addr} (h : H a = none) : G a = none := by
  cases e : G a with
  | none => rfl
  | some o => rw [x a o e] at h; cases h
theorem finv_step {B H : Hp} {e : Nat} {Q : VK} {E : XK} {G H' : Hp} {a0 t : Addr} {fs : List (List D × D)} {last : List D} {as ps : List Addr} {rows : List D} {l : Nat} {c : D}
    (I : FInv K CA B H e Q E G H' a0 t fs last as ps (.tup [.int (l : Int), c] :: rows)) (hl : l < fs.length + 1) :
    ∃ aL vsL, as[l]? = some aL ∧ H' aL = some (.lst vsL) ∧ vsL.length < sizeLine ∧ as.length + 1 ≤ sizeLine ∧ ∀ (q p' t1 t2 t3 : Addr) (cv : V) (X Y : List V), Rep K CA B cv c → H' q = none → upd H' q (.lst []) p' = none →
      upd (upd (upd H' q (.lst [])) p' (.tup [cv, .ref q])) aL (.lst (vsL ++ [.ref p'])) t1 = none →
      upd (upd (upd (upd H' q (.lst [])) p' (.tup [cv, .ref q])) aL (.lst (vsL ++ [.ref p']))) t1 (.lst X) t2 = none →
      upd (upd (upd (upd (upd H' q (.lst [])) p' (.tup [cv, .ref q])) aL (.lst (vsL ++ [.ref p']))) t1 (.lst X)) t2 (.lst Y) t3 = none →
      ∃ G' fs' as' ps', as' = as.take (l + 1) ++ [q] ∧ FInv K CA B H e Q E G' (upd (upd (upd (upd (upd (upd H' q (.lst [])) p' (.tup [cv, .ref q])) aL (.lst (vsL ++ [.ref p']))) t1 (.lst X)) t2 (.lst Y)) t3 (.lst ((as.take (l + 1) ++ [q]).map V.ref))) a0 t3 fs' [] as' ps' rows := by
  have en := I.en
  unfold rowsGo at en
  rw [if_pos (show (0 : Int) ≤ l ∧ (l : Int) < fs.length + 1 by omega)] at en
  by_cases hb : (tVal (fs.drop (l : Int).toNat) last).length < lim ∧ fs.length + 1 < lim
  · rw [if_pos hb] at en
    simp only [Int.toNat_natCast] at en hb
    obtain ⟨len1, len2⟩ := sp_len I.sp
    have there := sp_there I.sp
    let G' : Hp := fun x => if x ∈ as.drop (l + 1) ++ ps.drop l then H' x else G x
    have sub : ∀ x, x ∈ as.drop (l + 1) ++ ps.drop l → x ∈ as ++ ps := fun x hx => by
      rcases List.mem_append.mp hx with hx | hx
      · exact List.mem_append_left _ (List.mem_of_mem_drop hx)
      · exact List.mem_append_right _ (List.mem_of_mem_drop hx)
    have gin : ∀ x, x ∈ as.drop (l + 1) ++ ps.drop l → G' x = H' x := fun x hx => if_pos hx
    have gout : ∀ x, x ∉ as.drop (l + 1) ++ ps.drop l → G' x = G x := fun x hx => if_neg hx
    have hG : Ex G G' := fun a o h => by
      rw [gout a fun z => by rw [(I.fr a (sub a z)).1] at h; cases h]; exact h
    have hGH : Ex G' H' := fun a o h => by
      by_cases z : a ∈ as.drop (l + 1) ++ ps.drop l
      · rw [gin a z] at h; exact h
      · rw [gout a z] at h; exact I.gh a o h
    obtain ⟨aL, vsL, g1, g2, g3, g4⟩ := sp_step hG I.sp (show l ≤ fs.length by omega) (fun x hx => gin x (List.mem_append_left _ hx)) (fun x hx => gin x (List.mem_append_right _ hx))
    have vl : vsL.length < sizeLine := by rw [g3.length]; exact szl hb.1
    refine ⟨aL, vsL, g1, g2, vl, by rw [len1]; exact sz (by omega), fun q p' t1 t2 t3 cv X Y rc hq hp h1 h2 h3 => ?_⟩
    -- the list at l, apart from the others
    have hlt : l < as.length := by omega
    have eL : as[l] = aL := by rw [List.getElem?_eq_getElem hlt] at g1; exact Option.some.inj g1
    have split : as = as.take l ++ aL :: as.drop (l + 1) := by rw [← eL, List.getElem_cons_drop, List.take_append_drop]
    have ndA := (List.nodup_append.mp I.nd).1
    have ndP := (List.nodup_append.mp I.nd).2.1
    have ndX := (List.nodup_append.mp I.nd).2.2
    have tk : as.take (l + 1) = as.take l ++ [aL] := by rw [List.take_succ_eq_append_getElem hlt, eL]
    have aLin : aL ∈ as := by rw [← eL]; exact List.getElem_mem _
    have ndS : (as.take l ++ aL :: as.drop (l + 1)).Nodup := by rw [← split]; exact ndA
    have aLtake : ∀ x ∈ as.take l, x ≠ aL := fun x hx z => (List.nodup_append.mp ndS).2.2 x hx aL (by simp) z
    have aLps : ∀ x ∈ ps, x ≠ aL := fun x hx z => ndX aL aLin x hx z.symm
    have top : ∀ x ∈ as.take (l + 1), x ∉ as.drop (l + 1) ++ ps.drop l := fun x hx z => by
      rcases List.mem_append.mp z with z | z
      · have : (as.take (l + 1) ++ as.drop (l + 1)).Nodup := by rw [List.take_append_drop]; exact ndA
        exact (List.nodup_append.mp this).2.2 x hx x z rfl
      · exact ndX x (List.mem_of_mem_take hx) x (List.mem_of_mem_drop z) rfl
    have topP : ∀ x ∈ ps.take l, x ∉ as.drop (l + 1) ++ ps.drop l := fun x hx z => by
      rcases List.mem_append.mp z with z | z
      · exact ndX x (List.mem_of_mem_drop z) x (List.mem_of_mem_take hx) rfl
      · have : (ps.take l ++ ps.drop l).Nodup := by rw [List.take_append_drop]; exact ndP
        exact (List.nodup_append.mp this).2.2 x hx x z rfl
    -- the heaps
    generalize e1 : upd H' q (.lst []) = H1 at *
    generalize e2 : upd H1 p' (.tup [cv, .ref q]) = H2 at *
    generalize e3 : upd H2 aL (.lst (vsL ++ [.ref p'])) = H3 at *
    generalize e4 : upd H3 t1 (.lst X) = H4 at *
    generalize e5 : upd H4 t2 (.lst Y) = H5 at *
    have k2 : Ex H' H2 := fun a o h => by rw [← e2]; exact upd_keep (by rw [← e1]; exact upd_keep h hq) hp
    have k35 : Ex H3 H5 := fun a o h => by rw [← e5]; exact upd_keep (by rw [← e4]; exact upd_keep h h1) h2
    have k5 : ∀ a o, H' a = some o → a ≠ aL → H5 a = some o := fun a o h n => k35 a o (by rw [← e3, upd_ne n]; exact k2 a o h)
    have q2 : H2 q = some (.lst []) := by rw [← e2]; exact upd_keep (by rw [← e1]; exact upd_same) hp
    have p2 : H2 p' = some (.tup [cv, .ref q]) := by rw [← e2]; exact upd_same
    have qn : q ≠ aL := fun z => by rw [z, g2] at hq; cases hq
    have hp' : H' p' = none := by
      have n : p' ≠ q := fun z => by rw [z, ← e1, upd_same] at hp; cases hp
      rw [← e1, upd_ne n] at hp; exact hp
    have pq : p' ≠ q := fun z => by rw [z, ← e1, upd_same] at hp; cases hp
    have pn : p' ≠ aL := fun z => by rw [z, g2] at hp'; cases hp'
    have q5 : H5 q = some (.lst []) := k35 _ _ (by rw [← e3, upd_ne qn]; exact q2)
    have p5 : H5 p' = some (.tup [cv, .ref q]) := k35 _ _ (by rw [← e3, upd_ne pn]; exact p2)
    have a5 : H5 aL = some (.lst (vsL ++ [.ref p'])) := k35 _ _ (by rw [← e3]; exact upd_same)
    have k6 : ∀ {a : Addr} {o u : HO}, H5 a = some o → upd H5 t3 u a = some o := fun h => upd_keep h h3
    have same6 : ∀ x ∈ as ++ ps, x ≠ aL → upd H5 t3 (.lst ((as.take (l + 1) ++ [q]).map V.ref)) x = H' x := fun x hx n => by
      obtain ⟨o, ho⟩ := there x hx
      rw [ho]; exact k6 (k5 x o ho n)
    have aLG : G aL = none ∧ H aL = none := I.fr aL (List.mem_append_left _ aLin)
    refine ⟨G', fs.take l ++ [(tVal (fs.drop l) last, c)], as.take (l + 1) ++ [q], ps.take l ++ [p'], rfl, ?_⟩
    refine ⟨fun a o h => hG a o (I.bg a o h), fun a o h => ?_, fun a o h => ?_, fun a h => ?_, ?_, ?_, fun x hx => ?_, ?_, upd_same, fun z => ?_, en⟩
    · refine k6 (k5 a o (hGH a o h) fun z => ?_)
      subst z
      rw [gout a (top a (by rw [tk]; simp)), aLG.1] at h
      cases h
    · exact k6 (k5 a o (I.keep a o h) fun z => by subst z; rw [aLG.2] at h; cases h)
    · by_cases z : a ∈ as.drop (l + 1) ++ ps.drop l
      · exact .inr (I.fr a (sub a z)).2
      · rw [gout a z] at h; exact I.new a h
    · exact g4 _ q p' cv c (fun x hx => same6 x (List.mem_append_left _ (List.mem_of_mem_take hx)) (aLtake x hx)) (fun x hx => same6 x (List.mem_append_right _ (List.mem_of_mem_take hx)) (aLps x (List.mem_of_mem_take hx))) (k6 a5) (k6 p5) (k6 q5) (rc.mono fun a o h => hG a o (I.bg a o h))
    · have n1 : (as.take (l + 1) ++ ps.take l).Nodup := List.Nodup.sublist (List.Sublist.append (List.take_sublist _ _) (List.take_sublist _ _)) I.nd
      have old : ∀ x ∈ as.take (l + 1) ++ ps.take l, ∃ o, H' x = some o := fun x hx => there x (by
        rcases List.mem_append.mp hx with hx | hx
        · exact List.mem_append_left _ (List.mem_of_mem_take hx)
        · exact List.mem_append_right _ (List.mem_of_mem_take hx))
      obtain ⟨m1, m2, m3⟩ := List.nodup_append.mp n1
      have oq : ∀ x ∈ as.take (l + 1) ++ ps.take l, x ≠ q := fun x hx z => by obtain ⟨o, h⟩ := old x hx; rw [z, hq] at h; cases h
      have op : ∀ x ∈ as.take (l + 1) ++ ps.take l, x ≠ p' := fun x hx z => by obtain ⟨o, h⟩ := old x hx; rw [z, hp'] at h; cases h
      refine List.nodup_append.mpr ⟨List.nodup_append.mpr ⟨m1, by simp, fun a ha b hb => by rw [show b = q by simpa using hb]; exact oq a (List.mem_append_left _ ha)⟩, List.nodup_append.mpr ⟨m2, by simp, fun a ha b hb => by rw [show b = p' by simpa using hb]; exact op a (List.mem_append_right _ ha)⟩, fun a ha b hb => ?_⟩
      rcases List.mem_append.mp ha with ha | ha <;> rcases List.mem_append.mp hb with hb | hb
      · exact m3 a ha b hb
      · rw [show b = p' by simpa using hb]; exact op a (List.mem_append_left _ ha)
      · rw [show a = q by simpa using ha]; exact fun z => oq b (List.mem_append_right _ hb) z.symm
      · rw [show a = q by simpa using ha, show b = p' by simpa using hb]; exact fun z => pq z.symm
    · have newn : ∀ x, H' x = none → G' x = none ∧ H x = none := fun x hx => ⟨none_of_ex hGH hx, none_of_ex I.keep hx⟩
      rcases List.mem_append.mp hx with hx | hx <;> rcases List.mem_append.mp hx with hx | hx
      · rw [gout x (top x hx)]; exact I.fr x (List.mem_append_left _ (List.mem_of_mem_take hx))
      · rw [show x = q by simpa using hx]; exact newn q hq
      · rw [gout x (topP x hx)]; exact I.fr x (List.mem_append_right _ (List.mem_of_mem_take hx))
      · rw [show x = p' by simpa using hx]; exact newn p' hp'
    · have h0 := I.hd
      cases as with
      | nil => cases h0
      | cons a as => simpa using h0
    · rcases List.mem_append.mp z with z | z
      · by_cases n : t3 = aL
        · rw [n, a5] at h3; cases h3
        · obtain ⟨o, ho⟩ := there t3 (List.mem_append_left _ (List.mem_of_mem_take z))
          rw [k5 t3 o ho n] at h3; cases h3
      · rw [show t3 = q by simpa using z, q5] at h3; cases h3
  · rw [if_neg hb] at en; exact en.elim
end
end Den
set_option Elab.async false
set_option linter.all false
set_option maxRecDepth 100000
set_option autoImplicit false
set_option maxHeartbeats 4000000
namespace Den
open PySem PySem.Spec PyProof.Rows L2
section
variable {K : PySem.W.Frag} {CA : Nat → Option Addr}
theorem formG_inv {B H : Hp} {rs : List Addr} {Q : VK} {E : XK} {e : Nat} {as : List Arg} (h : EndF K CA B H rs Q E (formG e as)) : ∃ rows, as = [.val (.lst rows)] := by
  match as, h with
  | [.val (.lst rows)], _ => exact ⟨rows, rfl⟩
  | [], h => exact h.elim
  | [.bor _], h => exact h.elim
  | [.val .non], h => exact h.elim
  | [.val (.bl _)], h => exact h.elim
  | [.val (.int _)], h => exact h.elim
  | [.val (.str _)], h => exact h.elim
  | [.val (.tup _)], h => exact h.elim
  | [.val (.frl _)], h => exact h.elim
  | [.val (.dic _ _)], h => exact h.elim
  | [.val (.obj _ _ _)], h => exact h.elim
  | a :: b :: t, h => cases a with
    | bor d => exact h.elim
    | val d => cases d <;> exact h.elim
theorem args_one {B H : Hp} {vs : List V} {rows : List D} {rs : List Addr} (ao : ArgsOk K CA B H vs [.val (.lst rows)] rs) : ∃ p rv, vs = [.ref p] ∧ rs = [] ∧ B p = some (.lst rv) ∧ Reps K CA B rv rows := by
  match vs, rs, ao with
  | [v], [], ao =>
    obtain ⟨r, _⟩ := ao
    cases r with
    | lst h r => exact ⟨_, _, rfl, rfl, h, r⟩
  | [], _, ao => exact ao.elim
  | [_], _ :: _, ao => exact ao.2.elim
  | _ :: _ :: _, [], ao => exact ao.2.elim
  | _ :: _ :: _, _ :: _, ao => exact ao.2.elim
/-- the first row's tables -/
theorem finv_start {B H : Hp} {e : Nat} {Q : VK} {E : XK} {rows : List D} {a0 t : Addr} (bh : Ex B H) (ha : H a0 = none) (ht : upd H a0 (.lst []) t = none) (en : EndF K CA B H [] Q E (rowsGo e rows [] [])) :
    FInv K CA B H e Q E B (upd (upd H a0 (.lst [])) t (.lst [.ref a0])) a0 t [] [] [a0] [] rows where
  bg := Evl.Ex.refl B
  gh := fun a o h => upd_keep (upd_keep (bh a o h) ha) ht
  keep := fun a o h => upd_keep (upd_keep h ha) ht
  new := fun a h => .inl h
  sp := ⟨a0, [], rfl, rfl, upd_keep upd_same ht, .nil⟩
  nd := by simp
  fr := fun x hx => by rw [show x = a0 by simpa using hx]; exact ⟨none_of_ex bh ha, ha⟩
  hd := rfl
  tt := upd_same
  tn := fun z => by rw [show t = a0 by simpa using z, upd_same] at ht; cases ht
  en := en
theorem cutV_to {as : List Addr} {l : Nat} : cutV (as.map V.ref) none (some ((l : Int) + 1)) = (as.take (l + 1)).map V.ref := by
  have e : (l : Int) + 1 = ((l + 1 : Nat) : Int) := by omega
  rw [e]
  unfold cutV
  rw [HT.sIx_none, HT.sIx_nat]
  simp
/-- the form at the end -/
theorem finv_end {B H : Hp} {e : Nat} {Q : VK} {E : XK} {G H' : Hp} {a0 t : Addr} {fs : List (List D × D)} {last : List D} {as ps : List Addr} (I : FInv K CA B H e Q E G H' a0 t fs last as ps []) : Q (.ref a0) H' := by
  have en := I.en
  unfold rowsGo at en
  let G' : Hp := fun x => if x ∈ as.drop 1 ++ ps.drop 0 then H' x else G x
  have sub : ∀ x, x ∈ as.drop 1 ++ ps.drop 0 → x ∈ as ++ ps := fun x hx => by
    rcases List.mem_append.mp hx with hx | hx
    · exact List.mem_append_left _ (List.mem_of_mem_drop hx)
    · exact List.mem_append_right _ (List.mem_of_mem_drop hx)
  have gin : ∀ x, x ∈ as.drop 1 ++ ps.drop 0 → G' x = H' x := fun x hx => if_pos hx
  have gout : ∀ x, x ∉ as.drop 1 ++ ps.drop 0 → G' x = G x := fun x hx => if_neg hx
  have hG : Ex G G' := fun a o h => by
    rw [gout a fun z => by rw [(I.fr a (sub a z)).1] at h; cases h]; exact h
  have hGH : Ex G' H' := fun a o h => by
    by_cases z : a ∈ as.drop 1 ++ ps.drop 0
    · rw [gin a z] at h; exact h
    · rw [gout a z] at h; exact I.gh a o h
  obtain ⟨aL, vsL, g1, g2, g3, _⟩ := sp_step hG I.sp (Nat.zero_le _) (fun x hx => gin x (List.mem_append_left _ hx)) (fun x hx => gin x (List.mem_append_right _ hx))
  have ea : aL = a0 := by
    have h0 := I.hd
    cases as with
    | nil => cases h0
    | cons a as => simp at g1 h0; rw [← g1, h0]
  subst ea
  have aLin : aL ∈ as := by
    cases as with
    | nil => cases g1
    | cons a as => simp at g1; simp [g1]
  have fr := I.fr aL (List.mem_append_left _ aLin)
  have ndA := List.nodup_append.mp I.nd
  have out : aL ∉ as.drop 1 ++ ps.drop 0 := fun z => by
    rcases List.mem_append.mp z with z | z
    · cases as with
      | nil => cases g1
      | cons a as =>
        simp at g1
        subst g1
        exact (List.nodup_cons.mp ndA.1).1 (by simpa using z)
    · exact ndA.2.2 aL aLin aL (List.mem_of_mem_drop z) rfl
  refine en (.ref aL) G' H' ⟨fun a o h => hG a o (I.bg a o h), hGH, fun a o _ h => I.keep a o h, fun a h => ?_, rfl, fun k p d h => by cases h⟩ ⟨aL, rfl, .lst g2 (by simpa using g3), (gout aL out).trans fr.1, fr.2⟩
  by_cases z : a ∈ as.drop 1 ++ ps.drop 0
  · exact .inr (I.fr a (sub a z)).2
  · rw [gout a z] at h; exact I.new a h
/-- the error -/
theorem finv_raise {B H : Hp} {e : Nat} {Q : VK} {E : XK} {G H' : Hp} {a0 t : Addr} {fs : List (List D × D)} {last : List D} {as ps : List Addr} {rows : List D} {L : Int} {c : D} {Cx : Addr} (hC : CA e = some Cx) (I : FInv K CA B H e Q E G H' a0 t fs last as ps (.tup [.int L, c] :: rows)) (hl : ¬ (0 ≤ L ∧ L < fs.length + 1)) : E (.ref Cx) none H' := by
  have en := I.en
  unfold rowsGo at en
  rw [if_neg hl] at en
  exact en (.ref Cx) none G H' ⟨I.bg, I.gh, fun a o _ h => I.keep a o h, I.new, rfl, fun k p d h => by cases h⟩ (.non hC rfl)
end
end Den
set_option Elab.async false
set_option linter.all false
set_option maxRecDepth 100000
set_option autoImplicit false
set_option maxHeartbeats 4000000
namespace Den
open PySem PySem.Spec PyProof.Rows L2
/-! ### _law_shape: a list of lists, each changed in its place -/
section
variable {K : PySem.W.Frag} {CA : Nat → Option Addr}
structure SInv (K : PySem.W.Frag) (CA : Nat → Option Addr) (B H : Hp) (r : Addr) (G H' : Hp) (lv : Addr) (qs : List Addr) (LS : List (List Int)) (d : D) : Prop where
  bg : Ex B G
  gh : Ex G H'
  keep : ∀ a o, a ≠ r → H a = some o → H' a = some o
  new : ∀ a, G a ≠ none → B a ≠ none ∨ H a = none
  one : One K CA G H' r d
  rG : G r = none
  rH : ∃ o, H r = some o
  lvv : H' lv = some (.lst (qs.map V.ref))
  lvf : G lv = none ∧ H lv = none
  len : qs.length = LS.length
  at_ : ∀ (i : Nat) (q : Addr) (l : List Int), qs[i]? = some q → LS[i]? = some l → H' q = some (.lst (l.map V.int))
  qf : ∀ q, q ∈ qs → G q = none ∧ H q = none ∧ q ≠ lv
  nd : qs.Nodup
theorem reps_int (G : Hp) : ∀ l : List Int, Reps K CA G (l.map V.int) (l.map D.int)
  | [] => .nil
  | i :: l => .cons (.int i) (reps_int G l)
theorem reps_lists {G : Hp} : ∀ {qs : List Addr} {LS : List (List Int)}, qs.length = LS.length → (∀ (i : Nat) (q : Addr) (l : List Int), qs[i]? = some q → LS[i]? = some l → G q = some (.lst (l.map V.int))) → Reps K CA G (qs.map V.ref) (LS.map fun l => .lst (l.map .int))
  | [], [], _, _ => .nil
  | q :: qs, l :: LS, hl, h => .cons (.lst (h 0 q l rfl rfl) (reps_int _ l)) (reps_lists (by simpa using hl) fun i q' l' e1 e2 => h (i + 1) q' l' (by simpa using e1) (by simpa using e2))
  | [], _ :: _, hl, _ => by simp at hl
  | _ :: _, [], hl, _ => by simp at hl
/-- all lists frozen: what Den goes on from -/
theorem sinv_end {B H : Hp} {r : Addr} {G H' : Hp} {lv : Addr} {qs : List Addr} {LS : List (List Int)} {d : D} {m : Int} {x3 x4 : Option V} (bh : Ex B H) (I : SInv K CA B H r G H' lv qs LS d) :
    ∃ G', RS ⟨K, CA, H, B, [r]⟩ G' H' [some (.ref r), some (.int m), some (.ref lv), x3, x4] ⟨[some (.bor 0), some (.shr (.int m)), some (.own (.lst (LS.map fun l => .lst (l.map .int)))), none, none], [d]⟩ ∧ Ex B G' := by
  let G' : Hp := fun x => if x ∈ qs then H' x else G x
  have gin : ∀ x, x ∈ qs → G' x = H' x := fun x hx => if_pos hx
  have gout : ∀ x, x ∉ qs → G' x = G x := fun x hx => if_neg hx
  have hG : Ex G G' := fun a o h => by
    rw [gout a fun z => by rw [(I.qf a z).1] at h; cases h]; exact h
  have hGH : Ex G' H' := fun a o h => by
    by_cases z : a ∈ qs
    · rw [gin a z] at h; exact h
    · rw [gout a z] at h; exact I.gh a o h
  obtain ⟨ro, rh⟩ := I.rH
  have rq : r ∉ qs := fun z => by rw [(I.qf r z).2.1] at rh; cases rh
  have rlv : r ≠ lv := fun z => by rw [z, I.lvf.2] at rh; cases rh
  have lvq : lv ∉ qs := fun z => (I.qf lv z).2.2 rfl
  have mono1 : One K CA G' H' r d := by
    cases I.one with
    | lst h r => exact .lst h (r.mono hG)
    | dic h r => exact .dic h (r.mono hG)
    | obj c h r => exact .obj c h (r.mono hG)
  refine ⟨G', ⟨rfl, bh, by simp, fun p hp => ?_, fun a o n h => I.keep a o (by simpa using n) h, fun a o h => hG a o (I.bg a o h), hGH, fun a h => ?_, rfl, fun k p d' e1 e2 => ?_, fun i x e => ?_, fun i j x y e1 e2 m1 m2 q => ?_⟩, fun a o h => hG a o (I.bg a o h)⟩
  · rw [show p = r by simpa using hp]; exact ⟨ro, rh⟩
  · by_cases z : a ∈ qs
    · exact .inr (I.qf a z).2.1
    · rw [gout a z] at h; exact I.new a h
  · cases k with
    | zero => cases e1; cases e2; exact ⟨mono1, (gout r rq).trans I.rG⟩
    | succ k => cases e1
  · match i, e with
    | 0, e => cases e; exact ⟨.ref r, rfl, r, rfl, rfl⟩
    | 1, e => cases e; exact ⟨.int m, rfl, .int m⟩
    | 2, e => cases e; exact ⟨.ref lv, rfl, lv, rfl, .lst I.lvv (reps_lists I.len fun i q l e1 e2 => by rw [gin q (List.mem_of_getElem? e1)]; exact I.at_ i q l e1 e2), (gout lv lvq).trans I.lvf.1, I.lvf.2⟩
    | 3, e => cases e
    | 4, e => cases e
    | n + 5, e => cases e
  · match i, j, e1, e2, q with
    | 0, 0, _, _, _ => rfl
    | 2, 2, _, _, _ => rfl
    | 0, 2, _, _, q => cases q; exact (rlv rfl).elim
    | 2, 0, _, _, q => cases q; exact (rlv rfl).elim
    | 1, _, e1, _, _ => cases e1; cases m1
    | _, 1, _, e2, _ => cases e2; cases m2
    | 3, _, e1, _, _ => cases e1
    | 4, _, e1, _, _ => cases e1
    | n + 5, _, e1, _, _ => cases e1
    | _, 3, _, e2, _ => cases e2
    | _, 4, _, e2, _ => cases e2
    | _, n + 5, _, e2, _ => cases e2
/-- a number goes behind one of the lists -/
theorem sinv_put {B H : Hp} {r : Addr} {G H' : Hp} {lv : Addr} {qs : List Addr} {LS : List (List Int)} {d : D} (I : SInv K CA B H r G H' lv qs LS d) {i : Nat} (hi : i < LS.length) (k : Int) :
    ∃ q l, qs[i]? = some q ∧ LS[i]? = some l ∧ H' q = some (.lst (l.map V.int)) ∧ SInv K CA B H r G (upd H' q (.lst (l.map V.int ++ [.int k]))) lv qs (LS.set i (l ++ [k])) d := by
  have hq : i < qs.length := by rw [I.len]; exact hi
  have e1 : qs[i]? = some qs[i] := List.getElem?_eq_getElem hq
  have e2 : LS[i]? = some LS[i] := List.getElem?_eq_getElem hi
  have mem := List.getElem_mem hq
  have f := I.qf _ mem
  have hh := I.at_ i _ _ e1 e2
  obtain ⟨ro, rh⟩ := I.rH
  have nr : r ≠ qs[i] := fun z => by rw [z, f.2.1] at rh; cases rh
  refine ⟨qs[i], LS[i], e1, e2, hh, ⟨I.bg, fun a o h => ?_, fun a o n h => ?_, I.new, ?_, I.rG, I.rH, ?_, I.lvf, by simp [I.len], fun j q l g1 g2 => ?_, I.qf, I.nd⟩⟩
  · rw [upd_ne (fun z => by rw [z, f.1] at h; cases h)]; exact I.gh a o h
  · rw [upd_ne (fun z => by rw [z, f.2.1] at h; cases h)]; exact I.keep a o n h
  · cases I.one with
    | lst h r => exact .lst (by rw [upd_ne nr]; exact h) r
    | dic h r => exact .dic (by rw [upd_ne nr]; exact h) r
    | obj c h r => exact .obj c (by rw [upd_ne nr]; exact h) r
  · rw [upd_ne (fun z => f.2.2 z.symm)]; exact I.lvv
  · by_cases ij : j = i
    · subst ij
      rw [e1] at g1
      cases g1
      rw [List.getElem?_set_self hi] at g2
      cases g2
      rw [upd_same]; simp
    · rw [List.getElem?_set_ne (fun z => ij z.symm)] at g2
      rw [upd_ne (fun z => ij ?_)]
      · exact I.at_ j q l g1 g2
      · obtain ⟨hj, ej⟩ := List.getElem?_eq_some_iff.mp g1
        exact (List.getElem_inj I.nd).mp (ej.trans z)
/-- one list more -/
theorem sinv_new {B H : Hp} {r : Addr} {G H' : Hp} {lv : Addr} {qs : List Addr} {LS : List (List Int)} {d : D} (I : SInv K CA B H r G H' lv qs LS d) {q : Addr} (hq : H' q = none) :
    SInv K CA B H r G (upd (upd H' q (.lst [])) lv (.lst (qs.map V.ref ++ [.ref q]))) lv (qs ++ [q]) (LS ++ [[]]) d := by
  obtain ⟨ro, rh⟩ := I.rH
  have rlv : r ≠ lv := fun z => by rw [z, I.lvf.2] at rh; cases rh
  have qlv : q ≠ lv := fun z => by rw [z, I.lvv] at hq; cases hq
  have hr : ∃ o, H' r = some o := I.one.there
  have qr : r ≠ q := fun z => by obtain ⟨o, h⟩ := hr; rw [z, hq] at h; cases h
  have Hq : H q = none := by
    cases e : H q with
    | none => rfl
    | some o => rw [I.keep q o (fun z => qr z.symm) e] at hq; cases hq
  have old : ∀ {a : Addr} {o : HO}, a ≠ lv → H' a = some o → upd (upd H' q (.lst [])) lv (.lst (qs.map V.ref ++ [.ref q])) a = some o := fun n h => by rw [upd_ne n]; exact upd_keep h hq
  have lvq : lv ∉ qs := fun z => (I.qf lv z).2.2 rfl
  refine ⟨I.bg, fun a o h => old (fun z => by rw [z, I.lvf.1] at h; cases h) (I.gh a o h), fun a o n h => old (fun z => by rw [z, I.lvf.2] at h; cases h) (I.keep a o n h), I.new, ?_, I.rG, I.rH, ?_, I.lvf, by simp [I.len], fun i p l g1 g2 => ?_, fun p hp => ?_, ?_⟩
  · cases I.one with
    | lst h r => exact .lst (old rlv h) r
    | dic h r => exact .dic (old rlv h) r
    | obj c h r => exact .obj c (old rlv h) r
  · rw [upd_same]; simp
  · by_cases hi : i < qs.length
    · rw [List.getElem?_append_left hi] at g1
      rw [List.getElem?_append_left (by rw [← I.len]; exact hi)] at g2
      exact old (I.qf p (List.mem_of_getElem? g1)).2.2 (I.at_ i p l g1 g2)
    · have hi2 : i < (qs ++ [q]).length := (List.getElem?_eq_some_iff.mp g1).1
      have : i = qs.length := by simp at hi2; omega
      subst this
      rw [List.getElem?_append_right (Nat.le_refl _)] at g1
      rw [I.len, List.getElem?_append_right (Nat.le_refl _)] at g2
      simp at g1 g2
      subst g1 g2
      rw [upd_ne qlv]; exact upd_same
  · rcases List.mem_append.mp hp with hp | hp
    · exact I.qf p hp
    · rw [show p = q by simpa using hp]; exact ⟨none_of_ex I.gh hq, Hq, qlv⟩
  · refine List.nodup_append.mpr ⟨I.nd, by simp, fun a ha b hb => ?_⟩
    rw [show b = q by simpa using hb]
    intro z
    subst z
    obtain ⟨i, hi, e⟩ := List.mem_iff_getElem.mp ha
    have h1 : qs[i]? = some a := by rw [← e]; exact List.getElem?_eq_getElem hi
    have := I.at_ i a _ h1 (List.getElem?_eq_getElem (by rw [← I.len]; exact hi))
    rw [this] at hq; cases hq
/-- a number was drawn -/
theorem sinv_call {B H : Hp} {r : Addr} {G H' G2 H2 : Hp} {lv : Addr} {qs : List Addr} {LS : List (List Int)} {d d2 : D} (I : SInv K CA B H r G H' lv qs LS d) (A : After K CA G H' [r] G2 H2 [d2]) : SInv K CA B H r G2 H2 lv qs LS d2 := by
  obtain ⟨ro, rh⟩ := I.rH
  obtain ⟨o2, r2⟩ := A.bors 0 r d2 rfl rfl
  have rlv : lv ≠ r := fun z => by rw [← z, I.lvf.2] at rh; cases rh
  have keep : ∀ {a : Addr} {o : HO}, a ≠ r → H' a = some o → H2 a = some o := fun n h => A.keep _ _ (by simpa using n) h
  have gn : ∀ {a : Addr} {o : HO}, G a = none → H' a = some o → G2 a = none := fun {a o} g h => by
    cases e : G2 a with
    | none => rfl
    | some u =>
      rcases A.new a (by rw [e]; simp) with z | z
      · exact (z g).elim
      · rw [h] at z; cases z
  have there : ∀ q ∈ qs, ∃ o, H' q = some o := fun q hq => by
    obtain ⟨i, hi, e⟩ := List.mem_iff_getElem.mp hq
    exact ⟨_, I.at_ i q _ (by rw [← e]; exact List.getElem?_eq_getElem hi) (List.getElem?_eq_getElem (by rw [← I.len]; exact hi))⟩
  have qr : ∀ q ∈ qs, q ≠ r := fun q hq z => by rw [← z, (I.qf q hq).2.1] at rh; cases rh
  refine ⟨fun a o h => A.bg a o (I.bg a o h), A.gh, fun a o n h => keep n (I.keep a o n h), fun a h => ?_, o2, r2, ⟨ro, rh⟩, keep rlv I.lvv, ⟨gn I.lvf.1 I.lvv, I.lvf.2⟩, I.len, fun i q l g1 g2 => keep (qr q (List.mem_of_getElem? g1)) (I.at_ i q l g1 g2), fun q hq => ?_, I.nd⟩
  · rcases A.new a h with z | z
    · exact I.new a z
    · refine .inr ?_
      cases e : H a with
      | none => rfl
      | some o =>
        by_cases n : a = r
        · rw [n, r2] at h; exact (h rfl).elim
        · rw [I.keep a o n e] at z; cases z
  · obtain ⟨o, h⟩ := there q hq
    exact ⟨gn (I.qf q hq).1 h, (I.qf q hq).2⟩
/-- no list yet -/
theorem sinv_start {B H : Hp} {r lv : Addr} {d : D} (bh : Ex B H) (o : One K CA B H r d) (rB : B r = none) (hlv : H lv = none) : SInv K CA B H r B (upd H lv (.lst [])) lv [] [] d := by
  obtain ⟨ro, rh⟩ := o.there
  have rlv : r ≠ lv := fun z => by rw [z, hlv] at rh; cases rh
  refine ⟨Evl.Ex.refl B, fun a o h => upd_keep (bh a o h) hlv, fun a o _ h => upd_keep h hlv, fun a h => .inl h, ?_, rB, ⟨ro, rh⟩, upd_same, ⟨none_of_ex bh hlv, hlv⟩, rfl, fun i q l g1 _ => (by simp at g1), fun q hq => (by cases hq), List.nodup_nil⟩
  cases o with
  | lst h r => exact .lst (upd_keep h hlv) r
  | dic h r => exact .dic (upd_keep h hlv) r
  | obj c h r => exact .obj c (upd_keep h hlv) r
end
namespace SH
def shapeLoop (call : List Arg → OF) (m : Nat) : Nat → Nat → D → List (List Int) → Option (D × List (List Int))
  | 0, _, d, LS => some (d, LS)
  | t + 1, k, d, LS => match call [.bor d, .val (.int m)] with
    | .ret (.shr (.int v)) [d'] => shapeLoop call m t (k + 1) d' (LS.set (((k : Int) + v) % m).toNat ((LS[(((k : Int) + v) % m).toNat]?.getD []) ++ [(k : Int)]))
    | _ => none
def shapeRet (d : D) (LS : List (List Int)) : OF := .ret (.shr (.tup ((LS.filter fun l => !decide (l = [])).map fun l => .tup (l.map .int)))) [d]
def shapeG (f : Nat) (call : Nat → List Arg → OF) : List Arg → OF
  | [.bor d, .val (.int m)] => if 1 ≤ m ∧ m ≤ 1000 then match shapeLoop (call f) m.toNat m.toNat 0 d (List.replicate m.toNat []) with
    | some (d', LS) => shapeRet d' LS
    | none => .bad
    else .bad
  | _ => .bad
end SH
end Den
set_option Elab.async false
set_option linter.all false
set_option maxRecDepth 100000
set_option autoImplicit false
set_option maxHeartbeats 4000000
namespace Den
open PySem PySem.Spec PyProof.Rows L2
section
variable {K : PySem.W.Frag} {CA : Nat → Option Addr}
theorem reps_int_inv {G : Hp} : ∀ {vs : List V} {l : List Int}, Reps K CA G vs (l.map D.int) → vs = l.map V.int
  | [], [], _ => rfl
  | v :: vs, i :: l, h => by
    cases h with
    | cons h t => cases h; rw [reps_int_inv t]; rfl
  | [], _ :: _, h => by cases h
  | _ :: _, [], h => by cases h
/-- one list more, with content -/
theorem sinv_newL {B H : Hp} {r : Addr} {G H' : Hp} {lv : Addr} {qs : List Addr} {LS : List (List Int)} {d : D} (I : SInv K CA B H r G H' lv qs LS d) {q : Addr} (hq : H' q = none) (l0 : List Int) :
    SInv K CA B H r G (upd (upd H' q (.lst (l0.map V.int))) lv (.lst (qs.map V.ref ++ [.ref q]))) lv (qs ++ [q]) (LS ++ [l0]) d := by
  obtain ⟨ro, rh⟩ := I.rH
  have rlv : r ≠ lv := fun z => by rw [z, I.lvf.2] at rh; cases rh
  have qlv : q ≠ lv := fun z => by rw [z, I.lvv] at hq; cases hq
  have hr : ∃ o, H' r = some o := I.one.there
  have qr : r ≠ q := fun z => by obtain ⟨o, h⟩ := hr; rw [z, hq] at h; cases h
  have Hq : H q = none := by
    cases e : H q with
    | none => rfl
    | some o => rw [I.keep q o (fun z => qr z.symm) e] at hq; cases hq
  have old : ∀ {a : Addr} {o : HO}, a ≠ lv → H' a = some o → upd (upd H' q (.lst (l0.map V.int))) lv (.lst (qs.map V.ref ++ [.ref q])) a = some o := fun n h => by rw [upd_ne n]; exact upd_keep h hq
  have lvq : lv ∉ qs := fun z => (I.qf lv z).2.2 rfl
  refine ⟨I.bg, fun a o h => old (fun z => by rw [z, I.lvf.1] at h; cases h) (I.gh a o h), fun a o n h => old (fun z => by rw [z, I.lvf.2] at h; cases h) (I.keep a o n h), I.new, ?_, I.rG, I.rH, ?_, I.lvf, by simp [I.len], fun i p l g1 g2 => ?_, fun p hp => ?_, ?_⟩
  · cases I.one with
    | lst h r => exact .lst (old rlv h) r
    | dic h r => exact .dic (old rlv h) r
    | obj c h r => exact .obj c (old rlv h) r
  · rw [upd_same]; simp
  · by_cases hi : i < qs.length
    · rw [List.getElem?_append_left hi] at g1
      rw [List.getElem?_append_left (by rw [← I.len]; exact hi)] at g2
      exact old (I.qf p (List.mem_of_getElem? g1)).2.2 (I.at_ i p l g1 g2)
    · have hi2 : i < (qs ++ [q]).length := (List.getElem?_eq_some_iff.mp g1).1
      have : i = qs.length := by simp at hi2; omega
      subst this
      rw [List.getElem?_append_right (Nat.le_refl _)] at g1
      rw [I.len, List.getElem?_append_right (Nat.le_refl _)] at g2
      simp at g1 g2
      subst g1 g2
      rw [upd_ne qlv]; exact upd_same
  · rcases List.mem_append.mp hp with hp | hp
    · exact I.qf p hp
    · rw [show p = q by simpa using hp]; exact ⟨none_of_ex I.gh hq, Hq, qlv⟩
  · refine List.nodup_append.mpr ⟨I.nd, by simp, fun a ha b hb => ?_⟩
    rw [show b = q by simpa using hb]
    intro z
    subst z
    obtain ⟨i, hi, e⟩ := List.mem_iff_getElem.mp ha
    have h1 : qs[i]? = some a := by rw [← e]; exact List.getElem?_eq_getElem hi
    have := I.at_ i a _ h1 (List.getElem?_eq_getElem (by rw [← I.len]; exact hi))
    rw [this] at hq; cases hq
/-- one of the lists is another one now -/
theorem sinv_set {B H : Hp} {r : Addr} {G H' : Hp} {lv : Addr} {qs : List Addr} {LS : List (List Int)} {d : D} (I : SInv K CA B H r G H' lv qs LS d) {i : Nat} {q : Addr} (e1 : qs[i]? = some q) (hi : i < LS.length) (l' : List Int) :
    SInv K CA B H r G (upd H' q (.lst (l'.map V.int))) lv qs (LS.set i l') d := by
  have mem := List.mem_of_getElem? e1
  have f := I.qf _ mem
  obtain ⟨ro, rh⟩ := I.rH
  have nr : r ≠ q := fun z => by rw [z, f.2.1] at rh; cases rh
  refine ⟨I.bg, fun a o h => ?_, fun a o n h => ?_, I.new, ?_, I.rG, I.rH, ?_, I.lvf, by simp [I.len], fun j q' l g1 g2 => ?_, I.qf, I.nd⟩
  · rw [upd_ne (fun z => by rw [z, f.1] at h; cases h)]; exact I.gh a o h
  · rw [upd_ne (fun z => by rw [z, f.2.1] at h; cases h)]; exact I.keep a o n h
  · cases I.one with
    | lst h r => exact .lst (by rw [upd_ne nr]; exact h) r
    | dic h r => exact .dic (by rw [upd_ne nr]; exact h) r
    | obj c h r => exact .obj c (by rw [upd_ne nr]; exact h) r
  · rw [upd_ne (fun z => f.2.2 z.symm)]; exact I.lvv
  · by_cases ij : j = i
    · subst ij
      rw [e1] at g1
      cases g1
      rw [List.getElem?_set_self hi] at g2
      cases g2
      rw [upd_same]
    · rw [List.getElem?_set_ne (fun z => ij z.symm)] at g2
      rw [upd_ne (fun z => ij ?_)]
      · exact I.at_ j q' l g1 g2
      · obtain ⟨hj, ej⟩ := List.getElem?_eq_some_iff.mp g1
        obtain ⟨hi', ei⟩ := List.getElem?_eq_some_iff.mp e1
        exact (List.getElem_inj I.nd).mp (ej.trans (z.trans ei.symm))
/-- all lists frozen: what Den goes on from -/
theorem sinv_endA {B H : Hp} {r : Addr} {G H' : Hp} {lv : Addr} {qs : List Addr} {LS : List (List Int)} {d : D} {w t : Int} {sv : V} {sh : D} {x5 x6 x7 : Option V} (bh : Ex B H) (rs : Rep K CA B sv sh) (I : SInv K CA B H r G H' lv qs LS d) :
    ∃ G', RS ⟨K, CA, H, B, [r]⟩ G' H' [some (.ref r), some sv, some (.ref lv), some (.int w), some (.int t), x5, x6, x7] ⟨[some (.bor 0), some (.shr sh), some (.own (.lst (LS.map fun l => .lst (l.map .int)))), some (.shr (.int w)), some (.shr (.int t)), none, none, none], [d]⟩ := by
  let G' : Hp := fun x => if x ∈ qs then H' x else G x
  have gin : ∀ x, x ∈ qs → G' x = H' x := fun x hx => if_pos hx
  have gout : ∀ x, x ∉ qs → G' x = G x := fun x hx => if_neg hx
  have hG : Ex G G' := fun a o h => by
    rw [gout a fun z => by rw [(I.qf a z).1] at h; cases h]; exact h
  have hBG : Ex B G' := fun a o h => hG a o (I.bg a o h)
  have hGH : Ex G' H' := fun a o h => by
    by_cases z : a ∈ qs
    · rw [gin a z] at h; exact h
    · rw [gout a z] at h; exact I.gh a o h
  obtain ⟨ro, rh⟩ := I.rH
  have rq : r ∉ qs := fun z => by rw [(I.qf r z).2.1] at rh; cases rh
  have rlv : r ≠ lv := fun z => by rw [z, I.lvf.2] at rh; cases rh
  have lvq : lv ∉ qs := fun z => (I.qf lv z).2.2 rfl
  have mono1 : One K CA G' H' r d := by
    cases I.one with
    | lst h r => exact .lst h (r.mono hG)
    | dic h r => exact .dic h (r.mono hG)
    | obj c h r => exact .obj c h (r.mono hG)
  have hm : ∀ (i : Nat) (x : SV), ([some (.bor 0), some (.shr sh), some (.own (.lst (LS.map fun l => .lst (l.map .int)))), some (.shr (.int w)), some (.shr (.int t)), none, none, none] : List (Option SV))[i]? = some (some x) → x.mutb = true → i = 0 ∨ i = 2 := fun i x e m => by
    match i, e with
    | 0, _ => exact .inl rfl
    | 1, e => cases e; cases m
    | 2, _ => exact .inr rfl
    | 3, e => cases e; cases m
    | 4, e => cases e; cases m
    | 5, e => cases e
    | 6, e => cases e
    | 7, e => cases e
    | n + 8, e => cases e
  refine ⟨G', ⟨rfl, bh, by simp, fun p hp => ?_, fun a o n h => I.keep a o (by simpa using n) h, hBG, hGH, fun a h => ?_, rfl, fun k p d' e1 e2 => ?_, fun i x e => ?_, fun i j x y e1 e2 m1 m2 q => ?_⟩⟩
  · rw [show p = r by simpa using hp]; exact ⟨ro, rh⟩
  · by_cases z : a ∈ qs
    · exact .inr (I.qf a z).2.1
    · rw [gout a z] at h; exact I.new a h
  · cases k with
    | zero => cases e1; cases e2; exact ⟨mono1, (gout r rq).trans I.rG⟩
    | succ k => cases e1
  · match i, e with
    | 0, e => cases e; exact ⟨.ref r, rfl, r, rfl, rfl⟩
    | 1, e => cases e; exact ⟨sv, rfl, rs.mono hBG⟩
    | 2, e => cases e; exact ⟨.ref lv, rfl, lv, rfl, .lst I.lvv (reps_lists I.len fun i q l e1 e2 => by rw [gin q (List.mem_of_getElem? e1)]; exact I.at_ i q l e1 e2), (gout lv lvq).trans I.lvf.1, I.lvf.2⟩
    | 3, e => cases e; exact ⟨.int w, rfl, .int w⟩
    | 4, e => cases e; exact ⟨.int t, rfl, .int t⟩
    | 5, e => cases e
    | 6, e => cases e
    | 7, e => cases e
    | n + 8, e => cases e
  · rcases hm i x e1 m1 with rfl | rfl <;> rcases hm j y e2 m2 with rfl | rfl
    · rfl
    · cases q; exact (rlv rfl).elim
    · cases q; exact (rlv rfl).elim
    · rfl
end
namespace AR
def rL (K : PySem.W.Frag) : List V → Hp → VK → Prop := fun xs H Q => ∃ p ys, xs = [.ref p] ∧ (SqL K H p ys ∨ SqT K H p ys) ∧ ∀ l, H l = none → Q (.ref l) (upd H l (.lst ys))
theorem call_list_ofK {X : Cx} {K : PySem.W.Frag} (h : X.K = K) : CallR X (.type "list") (rL K) := h ▸ call_list_of
def tInts : D → Option (List Int)
  | .tup l => D.ints l
  | _ => none
def intss : List D → Option (List (List Int))
  | [] => some []
  | d :: ds => match tInts d, intss ds with
    | some l, some ls => some (l :: ls)
    | _, _ => none
def b0 : List C := [(.expr (.mut .insert 2 (.cons (.var 4) (.cons (.lst .nil) .nil))))]
def restC (fd fb : Nat) : List C := [(.iff (.cmp .eq (.var 3) (.int 4)) [(.set 2 (.lst .nil))] [(.iff (.or (.cmp .eq (.var 3) (.int 5)) (.cmp .eq (.var 3) (.int 6))) [(.set 2 (.comp [("_law_level", 5)] (.nm 5) (.seq (.var 2)) .tru (.comp [("_law_column", 6)] (.nm 6) (.seq (.var 5)) .tru (.op .sub (.cons (.op .add (.cons (.var 6) (.cons (.op .mul (.cons (.int 2) (.cons (.var 3) .nil))) .nil))) (.cons (.int 11) .nil))))))] [(.iff (.cmp .eq (.var 3) (.int 7)) [(.set 2 (.comp [("_law_k", 7)] (.nm 7) (.rng (.call fd [true, false] (.cons (.var 0) (.cons (.int 5) .nil)))) .tru (.call fb [false] (.cons (.call fd [true, false] (.cons (.var 0) (.cons (.int 32) .nil))) .nil))))] [] [7])] [6, 7])] [6, 7])]
def lastC : List C := [(.ret (.op .tuple (.cons (.comp [("_law_level", 5)] (.nm 5) (.seq (.var 2)) .tru (.op .tuple (.cons (.var 5) .nil))) .nil)))]
def st0 (sh : D) (LS : List (List Int)) (w t : Int) (d : D) : S := ⟨[some (.bor 0), some (.shr sh), some (.own (.lst (LS.map fun l => .lst (l.map .int)))), some (.shr (.int w)), some (.shr (.int t)), none, none, none], [d]⟩
/-- what a way does to the lists themselves -/
def way (cl : List Arg → OF) (w : Int) (t : Nat) (LS : List (List Int)) (d : D) : Option (List (List Int) × D) :=
  if w = 1 then match cl [.bor d, .val (.int 5)] with
    | .ret (.shr (.int v)) [d'] => some (LS.set t ((LS[t]?.getD []) ++ [v]), d')
    | _ => none
  else if w = 2 then (if (LS[t]?.getD []) = [] then none else some (LS.set t (LS[t]?.getD []).dropLast, d))
  else if w = 3 then some (LS.set t (LS[t]?.getD []).reverse, d)
  else some (LS, d)
def tailC (fd fb : Nat) (w : Int) : List C := if w = 0 then b0 else if w = 1 ∨ w = 2 ∨ w = 3 then [] else restC fd fb
def lastO : O → OF
  | .rt (.shr v) s2 => .ret (.shr v) s2.bs
  | _ => .bad
def fin (E : Env) (cs : List C) (s : S) : OF := match exCs E cs s with
  | .nx s1 => lastO (exCs E lastC s1)
  | _ => .bad
def env0 (call : Nat → List Arg → OF) : Env := ⟨call, fun _ _ => none, 0⟩
theorem env_b0 (E : Env) (s : S) : exCs E b0 s = exCs (env0 E.cl) b0 s := rfl
theorem env_last (E : Env) (s : S) : exCs E lastC s = exCs (env0 E.cl) lastC s := rfl
theorem env_rest (E : Env) (fd fb : Nat) (s : S) : exCs E (restC fd fb) s = exCs (env0 E.cl) (restC fd fb) s := rfl
def arrG (fd fb : Nat) (call : Nat → List Arg → OF) : List Arg → OF
  | [.bor d, .val (.tup sh)] => match intss sh with
    | some LS => if LS.length ≤ 1000 ∧ LS.all (fun l => l.length ≤ 1000) then match call fd [.bor d, .val (.int 9)] with
      | .ret (.shr (.int w)) [d1] => match call fd [.bor d1, .val (.int LS.length)] with
        | .ret (.shr (.int t)) [d2] => if 0 ≤ t ∧ t < LS.length then match way (call fd) w t.toNat LS d2 with
          | some (LS', d3) => fin (env0 call) (tailC fd fb w) (st0 (.tup sh) LS' w t d3)
          | none => .bad
          else .bad
        | _ => .bad
      | _ => .bad
      else .bad
    | none => .bad
  | _ => .bad
theorem rep_tup {K : PySem.W.Frag} {CA : Nat → Option Addr} {B : Hp} {v : V} {ds : List D} (h : Rep K CA B v (.tup ds)) : ∃ a vs, v = .ref a ∧ SqT K B a vs ∧ Reps K CA B vs ds := by
  cases h with
  | tup h r => exact ⟨_, _, rfl, h, r⟩
theorem intss_tup : ∀ {ds : List D} {LS : List (List Int)}, intss ds = some LS → ds = LS.map fun l => .tup (l.map .int)
  | [], LS, h => by cases h; rfl
  | d :: ds, LS, h => by
    unfold intss at h
    split at h
    · rename_i l ls e1 e2
      cases h
      rw [intss_tup e2]
      unfold tInts at e1
      split at e1
      · rename_i l'
        have : ∀ {l' : List D} {l : List Int}, D.ints l' = some l → l' = l.map .int := by
          intro l'
          induction l' with
          | nil => intro l h; cases h; rfl
          | cons a l' ih =>
            intro l h
            cases a <;> first | (cases h; done) | skip
            rename_i i
            have h : (D.ints l').map (i :: ·) = some l := h
            cases e : D.ints l' with
            | none => rw [e] at h; cases h
            | some m => rw [e] at h; cases h; rw [ih e]; rfl
        rw [this e1]; rfl
      · cases e1
    · cases h
end AR
end Den
set_option Elab.async false
set_option linter.all false
set_option maxRecDepth 100000
set_option autoImplicit false
set_option maxHeartbeats 4000000
namespace KB
open PySem PySem.Spec PyProof.Rows L2 Den
/-! ### Kindbook.__init__ -/
def seqT : D → Option (List D)
  | .lst xs => some xs
  | .tup xs => some xs
  | _ => none
def told : Str := "_told"
def namesF : Str := "names"
def bk1 (c : Nat) (ks vs : List D) : D := .obj c [told] [.dic ks vs]
/-- a row's name -/
def fst1 : D → D
  | .tup (d :: _) => d
  | _ => .non
/-- the rows in order; all: all of them; C: the class; f: the check -/
def rowsGo (call : Nat → List Den.Arg → OF) (C f : Nat) (all : List D) : List D → List D → List D → OF
  | [], ks, vs => .ret (.shr .non) [.obj C [told, namesF] [.dic ks vs, .tup (all.map fst1)]]
  | .tup [.str x, sz, pa, ld] :: rs, ks, vs => match seqT ld with
    | some ls => match call f [.val (bk1 C ks vs), .val (.str x), .val sz, .val pa, .val ld] with
      | .ret _ [] => if (ks.any fun k => decide (k = .str x)) = false ∧ ks.length < 1000 ∧ ls.length ≤ 1000 then rowsGo call C f all rs (ks ++ [.str x]) (vs ++ [.tup [sz, pa, .tup ls]]) else .bad
      | .ex c [] [] => .ex c [] [bk1 C ks vs]
      | _ => .bad
    | none => .bad
  | _ :: _, _, _ => .bad
def bookG (kI kM f : Nat) (C : Nat) (call : Nat → List Den.Arg → OF) : List Den.Arg → OF
  | [.bor d0, .val (.lst rows)] => if d0 = .obj C [] [] then (if rows = [] then .ex kI [] [.obj C [] []] else if 5 < rows.length then .ex kM [] [.obj C [] []] else rowsGo call C f rows rows [] []) else .bad
  | _ => .bad
end KB
set_option Elab.async false
set_option linter.all false
set_option maxRecDepth 100000
set_option autoImplicit false
set_option maxHeartbeats 4000000
namespace KB
open PySem PySem.Spec PyProof.Rows L2 Den
section
variable {K : PySem.W.Frag} {CA : Nat → Option Addr}
/-- a state as it stands, all of it shared -/
theorem snap {G H : Hp} {σ : L2.St} {env : List (Option SV)} (x : Ex G H) (hl : env.length = σ.length) (hs : ∀ (i : Nat) (y : SV), env[i]? = some (some y) → ∃ d v, y = .shr d ∧ σ[i]? = some (some v) ∧ Rep K CA G v d) : RS ⟨K, CA, H, G, []⟩ G H σ ⟨env, []⟩ where
  len := hl
  bh := x
  nd := List.nodup_nil
  lent := fun p h => by cases h
  keep := fun a o _ h => h
  bg := Evl.Ex.refl G
  gh := x
  fresh := fun a h => .inl h
  blen := rfl
  bors := fun k p d h => by cases h
  slots := fun i y e => by
    obtain ⟨d, v, rfl, e1, r⟩ := hs i y e
    exact ⟨v, e1, r⟩
  inj := fun i j x y e1 e2 m1 => by
    obtain ⟨d, v, rfl, _, _⟩ := hs i x e1
    cases m1
/-- the slots of a snapshot -/
inductive Slots (K : PySem.W.Frag) (CA : Nat → Option Addr) (G : Hp) : L2.St → List (Option SV) → Prop
  | nil : Slots K CA G [] []
  | hid {o : Option V} {σ : L2.St} {env : List (Option SV)} : Slots K CA G σ env → Slots K CA G (o :: σ) (none :: env)
  | shr {v : V} {d : D} {σ : L2.St} {env : List (Option SV)} : Rep K CA G v d → Slots K CA G σ env → Slots K CA G (some v :: σ) (some (.shr d) :: env)
theorem Slots.len {G : Hp} : ∀ {σ : L2.St} {env : List (Option SV)}, Slots K CA G σ env → env.length = σ.length
  | _, _, .nil => rfl
  | _, _, .hid t => by simp [Slots.len t]
  | _, _, .shr _ t => by simp [Slots.len t]
theorem Slots.get {G : Hp} : ∀ {σ : L2.St} {env : List (Option SV)}, Slots K CA G σ env → ∀ (i : Nat) (y : SV), env[i]? = some (some y) → ∃ d v, y = .shr d ∧ σ[i]? = some (some v) ∧ Rep K CA G v d
  | _, _, .nil, i, y, e => by cases e
  | _, _, .hid t, 0, y, e => by cases e
  | _, _, .hid t, i + 1, y, e => by
    obtain ⟨d, v, a, b, c⟩ := Slots.get t i y (by simpa using e)
    exact ⟨d, v, a, by simpa using b, c⟩
  | _, _, .shr r t, 0, y, e => by cases e; exact ⟨_, _, rfl, rfl, r⟩
  | _, _, .shr _ t, i + 1, y, e => by
    obtain ⟨d, v, a, b, c⟩ := Slots.get t i y (by simpa using e)
    exact ⟨d, v, a, by simpa using b, c⟩
theorem Slots.rs {G H : Hp} {σ : L2.St} {env : List (Option SV)} (h : Slots K CA G σ env) (x : Ex G H) : RS ⟨K, CA, H, G, []⟩ G H σ ⟨env, []⟩ := snap x h.len h.get
/-- what stands between two turns: the instance at r, its dict at d1 -/
structure KInv (K : PySem.W.Frag) (CA : Nat → Option Addr) (B H : Hp) (r Cc dx d1 : Addr) (G H' : Hp) (kvs : List (Key × V)) (ks vs : List D) : Prop where
  bg : Ex B G
  gh : Ex G H'
  keep : ∀ a o, a ≠ r → H a = some o → H' a = some o
  new : ∀ a, G a ≠ none → B a ≠ none ∨ H a = none
  gr : G r = none
  gd : G d1 = none
  hd : H d1 = none
  ne : d1 ≠ r
  hr : H' r = some (.ins Cc dx [(told, .ref d1)])
  hk : H' d1 = some (.dK kvs)
  ek : kvs.map (fun p => kD p.1) = ks
  rv : Reps K CA G (kvs.map (·.2)) vs
variable {B H G H' : Hp} {r Cc dx d1 : Addr} {kvs : List (Key × V)} {ks vs : List D}
/-- the dict frozen -/
theorem kinv_dict (I : KInv K CA B H r Cc dx d1 G H' kvs ks vs) : Ex G (upd G d1 (.dK kvs)) ∧ Ex (upd G d1 (.dK kvs)) H' ∧ Rep K CA (upd G d1 (.dK kvs)) (.ref d1) (.dic ks vs) := by
  refine ⟨Evl.Ex.new I.gd, Ex.upd_both I.gh I.hk, ?_⟩
  have := I.ek
  subst this
  exact .dic upd_same (I.rv.mono (Evl.Ex.new I.gd))
/-- both frozen -/
theorem kinv_both {C : Nat} (hC : CA C = some Cc) (I : KInv K CA B H r Cc dx d1 G H' kvs ks vs) : ∃ G1, Ex G G1 ∧ Ex G1 H' ∧ Rep K CA G1 (.ref r) (bk1 C ks vs) := by
  obtain ⟨x1, x2, rd⟩ := kinv_dict I
  have n : upd G d1 (.dK kvs) r = none := by rw [upd_ne (Ne.symm I.ne)]; exact I.gr
  exact ⟨upd (upd G d1 (.dK kvs)) r (.ins Cc dx [(told, .ref d1)]), x1.trans (Evl.Ex.new n), Ex.upd_both x2 I.hr, .obj (fs := [(told, .ref d1)]) hC upd_same (.cons (rd.mono (Evl.Ex.new n)) .nil)⟩
/-- the heap grows -/
theorem kinv_more (I : KInv K CA B H r Cc dx d1 G H' kvs ks vs) {H2 : Hp} (x : Ex H' H2) : KInv K CA B H r Cc dx d1 G H2 kvs ks vs :=
  ⟨I.bg, fun a o h => x _ _ (I.gh a o h), fun a o n h => x _ _ (I.keep a o n h), I.new, I.gr, I.gd, I.hd, I.ne, x _ _ I.hr, x _ _ I.hk, I.ek, I.rv⟩
/-- .. and what is shared -/
theorem kinv_grow (I : KInv K CA B H r Cc dx d1 G H' kvs ks vs) {G2 H2 : Hp} (xg : Ex G G2) (x : Ex H' H2) (gh : Ex G2 H2) (nw : ∀ a, G2 a ≠ none → G a ≠ none ∨ H' a = none) : KInv K CA B H r Cc dx d1 G2 H2 kvs ks vs := by
  have apart : ∀ a o, H' a = some o → G a = none → G2 a = none := fun a o h n => by
    cases e : G2 a with
    | none => rfl
    | some u =>
      rcases nw a (by rw [e]; exact fun z => nomatch z) with z | z
      · exact absurd n z
      · rw [h] at z; cases z
  refine ⟨I.bg.trans xg, gh, fun a o n h => x _ _ (I.keep a o n h), fun a h => ?_, apart _ _ I.hr I.gr, apart _ _ I.hk I.gd, I.hd, I.ne, x _ _ I.hr, x _ _ I.hk, I.ek, I.rv.mono xg⟩
  rcases nw a h with z | z
  · exact I.new a z
  · refine .inr ?_
    cases e : H a with
    | none => rfl
    | some o =>
      by_cases n : a = r
      · subst n; rw [I.hr] at z; cases z
      · rw [I.keep a o n e] at z; cases z
theorem putK_new {k : Key} {v : V} {kvs : List (Key × V)} (h : ((kvs.map fun p => kD p.1).any fun d => decide (d = kD k)) = false) : putK kvs k v = kvs ++ [(k, v)] := by
  unfold putK
  rw [if_neg]
  intro z
  obtain ⟨p, hp, e⟩ := List.any_eq_true.mp z
  have e := of_decide_eq_true e
  have := List.any_eq_false.mp h (kD p.1) (List.mem_map.mpr ⟨p, hp, rfl⟩)
  exact this (decide_eq_true (by rw [e]))
/-- a pair is put in -/
theorem kinv_put (I : KInv K CA B H r Cc dx d1 G H' kvs ks vs) {k : Key} {v : V} {d : D} (rd : Rep K CA G v d) (h : (ks.any fun j => decide (j = kD k)) = false) : KInv K CA B H r Cc dx d1 G (upd H' d1 (.dK (putK kvs k v))) (kvs ++ [(k, v)]) (ks ++ [kD k]) (vs ++ [d]) := by
  have e := I.ek
  subst e
  rw [putK_new h]
  refine ⟨I.bg, Ex.upd_free I.gh I.gd, fun a o n e => ?_, I.new, I.gr, I.gd, I.hd, I.ne, by rw [upd_ne (Ne.symm I.ne)]; exact I.hr, upd_same, by simp, ?_⟩
  · rw [upd_ne (ne_of_none e I.hd)]; exact I.keep a o n e
  · rw [List.map_append]; exact I.rv.append (.one rd)
theorem kinv_start (bh : Ex B H) (br : B r = none) {Hc : Hp} (hr : H r = some (.ins Cc dx [])) (x : Ex H Hc) (hn : Hc d1 = none) : KInv K CA B H r Cc dx d1 B (upd (upd Hc d1 (.dK [])) r (.ins Cc dx [(told, .ref d1)])) [] [] [] := by
  have hd : H d1 = none := by
    cases e : H d1 with
    | none => rfl
    | some o => rw [x _ _ e] at hn; cases hn
  have ne : d1 ≠ r := fun z => by subst z; rw [hr] at hd; cases hd
  have bd : B d1 = none := by
    cases e : B d1 with
    | none => rfl
    | some o => rw [bh _ _ e] at hd; cases hd
  refine ⟨Evl.Ex.refl B, fun a o h => ?_, fun a o n h => ?_, fun a h => .inl h, br, bd, hd, ne, upd_same, by rw [upd_ne ne]; exact upd_same, rfl, .nil⟩
  · rw [upd_ne (ne_of_none h br), upd_ne (ne_of_none h bd)]; exact x _ _ (bh _ _ h)
  · rw [upd_ne n, upd_ne (ne_of_none h hd)]; exact x _ _ h
/-- the end: the names stored -/
theorem kinv_end {C : Nat} (hC : CA C = some Cc) (I : KInv K CA B H r Cc dx d1 G H' kvs ks vs) {v : V} {ns : List D} (rn : Rep K CA G v (.tup ns)) :
    After K CA B H [r] (upd G d1 (.dK kvs)) (upd H' r (.ins Cc dx [(told, .ref d1), (namesF, v)])) [.obj C [told, namesF] [.dic ks vs, .tup ns]] := by
  obtain ⟨x1, x2, rd⟩ := kinv_dict I
  have n : upd G d1 (.dK kvs) r = none := by rw [upd_ne (Ne.symm I.ne)]; exact I.gr
  refine ⟨I.bg.trans x1, Ex.upd_free x2 n, fun a o m h => ?_, fun a h => ?_, rfl, fun k p d e1 e2 => ?_⟩
  · have : a ≠ r := fun z => m (by rw [z]; exact List.mem_singleton.mpr rfl)
    rw [upd_ne this]; exact I.keep a o this h
  · by_cases z : a = d1
    · subst z; exact .inr I.hd
    · rw [upd_ne z] at h; exact I.new a h
  · cases k with
    | succ k => cases e1
    | zero =>
      cases e1
      cases e2
      exact ⟨.obj (fs := [(told, .ref d1), (namesF, v)]) hC upd_same (.cons rd (.cons (rn.mono x1) .nil)), n⟩
/-- .. an error -/
theorem kinv_err {C : Nat} (hC : CA C = some Cc) (I : KInv K CA B H r Cc dx d1 G H' kvs ks vs) : After K CA B H [r] (upd G d1 (.dK kvs)) H' [bk1 C ks vs] := by
  obtain ⟨x1, x2, rd⟩ := kinv_dict I
  have n : upd G d1 (.dK kvs) r = none := by rw [upd_ne (Ne.symm I.ne)]; exact I.gr
  refine ⟨I.bg.trans x1, x2, fun a o m h => ?_, fun a h => ?_, rfl, fun k p d e1 e2 => ?_⟩
  · have : a ≠ r := fun z => m (by rw [z]; exact List.mem_singleton.mpr rfl)
    exact I.keep a o this h
  · by_cases z : a = d1
    · subst z; exact .inr I.hd
    · rw [upd_ne z] at h; exact I.new a h
  · cases k with
    | succ k => cases e1
    | zero =>
      cases e1
      cases e2
      exact ⟨.obj (fs := [(told, .ref d1)]) hC I.hr (.cons rd .nil), n⟩
theorem bookG_inv {B H : Hp} {rs : List Addr} {Q : VK} {E : XK} {kI kM f C : Nat} {call : Nat → List Den.Arg → OF} {as : List Den.Arg} (h : EndF K CA B H rs Q E (bookG kI kM f C call as)) :
    ∃ rows, as = [.bor (.obj C [] []), .val (.lst rows)] ∧ EndF K CA B H rs Q E (if rows = [] then .ex kI [] [.obj C [] []] else if 5 < rows.length then .ex kM [] [.obj C [] []] else rowsGo call C f rows rows [] []) := by
  unfold bookG at h
  split at h
  · rename_i d0 rows
    split at h
    · rename_i e
      subst e
      exact ⟨rows, rfl, h⟩
    · exact h.elim
  · exact h.elim
theorem args_two {vs : List V} {d e : D} {rs : List Addr} (ao : ArgsOk K CA B H vs [.bor d, .val e] rs) : ∃ r v, vs = [.ref r, v] ∧ rs = [r] ∧ One K CA B H r d ∧ B r = none ∧ Rep K CA B v e := by
  match vs, rs, ao with
  | [v, u], [r], ao =>
    obtain ⟨⟨rfl, o, b⟩, q, _⟩ := ao
    exact ⟨r, u, rfl, rfl, o, b, q⟩
  | [], _, ao => exact ao.elim
  | _ :: _, [], ao => exact ao.elim
  | [_], _ :: _, ao => exact ao.2.elim
  | [_, _], _ :: _ :: _, ao => exact ao.2.2.elim
  | _ :: _ :: _ :: _, _ :: _, ao => exact (by cases ‹List Addr› <;> exact ao.2.2.elim)
theorem one_empty {C : Nat} (h : One K CA B H r (.obj C [] [])) : ∃ Cc dx, CA C = some Cc ∧ H r = some (.ins Cc dx []) := by
  generalize e : D.obj C [] [] = d at h
  cases h with
  | lst _ _ => cases e
  | dic _ _ => cases e
  | obj hc hh rr =>
    injection e with e1 e2 e3
    subst e1
    rename_i fs ds
    cases fs with
    | nil => exact ⟨_, _, hc, hh⟩
    | cons _ _ => cases e2
end
end KB
set_option Elab.async false
set_option linter.all false
set_option maxRecDepth 100000
set_option autoImplicit false
set_option maxHeartbeats 4000000
namespace Den
open PySem PySem.Spec PyProof.Rows L2
def topS (i : Nat) : Stmt := PySem.Challenge.pw_formroads_k61_less_told_kinds.main.body.getD i (.Pass ⟨0, 0, 0, 0⟩)
abbrev F.is_name : Nat := 0
abbrev F.check_name : Nat := 1
abbrev F.check_kinds : Nat := 2
abbrev F.check_border : Nat := 3
abbrev F.Kindbook___init__ : Nat := 4
abbrev F.Kindbook__check_record : Nat := 5
abbrev F.Kindbook_checked : Nat := 6
abbrev F.Kindbook_size_of : Nat := 7
abbrev F.Kindbook_parent_of : Nat := 8
abbrev F.Kindbook_leads_of : Nat := 9
abbrev F.Kindbook_chain_of : Nat := 10
abbrev F.Kindbook_members : Nat := 11
abbrev F.Kindbook_led : Nat := 12
abbrev F.Kindbook_below : Nat := 13
abbrev F.Passage___init__ : Nat := 14
abbrev F.Passage_of : Nat := 15
abbrev F.Passage_then : Nat := 16
abbrev F.Passage__joined_parts : Nat := 17
abbrev F.Passage__stage_behind : Nat := 18
abbrev F.Passage_stage : Nat := 19
abbrev F.Passage_lead : Nat := 20
abbrev F.Passage_passing : Nat := 21
abbrev F.L_draws : Nat := 22
abbrev F.L_draw : Nat := 23
abbrev F.L_pick : Nat := 24
abbrev F.L_same : Nat := 25
abbrev F.L_names : Nat := 26
abbrev F.L_book : Nat := 27
abbrev F.L_row : Nat := 28
abbrev F.L_chain : Nat := 29
abbrev F.L_members : Nat := 30
abbrev F.L_led : Nat := 31
abbrev F.L_sequence : Nat := 32
abbrev F.L_walked : Nat := 33
abbrev F.L_last_told : Nat := 34
abbrev F.L_less_told : Nat := 35
abbrev F.L_passage_so : Nat := 36
abbrev F.law : Nat := 37
def I_is_name : FI := ⟨"is_name", ["text"], ["text", "letter"], [false],
  [(.ret (.and (.cmp2 .le .le (.int 1) (.op .len (.cons (.var 0) .nil)) (.glo "_LONGEST_NAME" (.int 8))) (.op .all (.cons (.comp [("letter", 1)] (.nm 1) (.seq (.var 0)) .tru (.cmp2 .le .le (.str "a") (.var 1) (.str "z"))) .nil))))],
  none, .no⟩
def I_check_name : FI := ⟨"check_name", ["text"], ["text"], [false],
  [(.iff (.not (.x (.call F.is_name [false] (.cons (.var 0) .nil)))) [(.raise 1)] [] []),
   (.retv 0)],
  none, .no⟩
def I_check_kinds : FI := ⟨"check_kinds", ["book", "kinds"], ["book", "kinds", "kind"], [false, false],
  [(.for (.nm 2) (.seq (.var 1)) [(.iff (.cmp .ne (.var 2) (.glo "UNKNOWN" (.str "?"))) [(.expr (.meth "checked" [(8, F.Kindbook_checked)] [false, false] (.var 0) (.cons (.var 2) .nil)))] [] [])] [2])],
  none, .no⟩
def I_check_border : FI := ⟨"check_border", ["book", "kinds", "targets"], ["book", "kinds", "targets", "kind", "target"], [false, false, false],
  [(.expr (.call F.check_kinds [false, false] (.cons (.var 0) (.cons (.var 1) .nil)))),
   (.expr (.call F.check_kinds [false, false] (.cons (.var 0) (.cons (.var 2) .nil)))),
   (.for (.tup [(.nm 3), (.nm 4)]) (.zip (.var 1) (.var 2)) [(.iff (.and (.cmp .ne (.var 3) (.glo "UNKNOWN" (.str "?"))) (.not (.x (.meth "below" [(8, F.Kindbook_below)] [false, false, false] (.var 0) (.cons (.var 3) (.cons (.var 4) .nil)))))) [(.raise 7)] [] [])] [3, 4])],
  none, .no⟩
def I_Kindbook___init__ : FI := ⟨"Kindbook.__init__", ["self", "rows"], ["self", "rows", "name", "size", "parent", "leads", "row"], [true, false], [], some (KB.bookG 5 4 F.Kindbook__check_record 8), .meth 8 "__init__"⟩
def I_Kindbook__check_record : FI := ⟨"Kindbook._check_record", ["self", "name", "size", "parent", "leads"], ["self", "name", "size", "parent", "leads", "lead"], [false, false, false, false, false],
  [(.expr (.call F.check_name [false] (.cons (.var 1) .nil))),
   (.iff (.cmp .isin (.var 1) (.fld [8] "_told" (.var 0))) [(.raise 2)] [] []),
   (.iff (.not (.cmp2 .le .le (.int 1) (.var 2) (.con [8] "MOST_SIZE" (.int 4) (.var 0)))) [(.raise 5)] [] []),
   (.iff (.isN false (.var 3)) [(.iff (.x (.var 4)) [(.raise 5)] [] []), .retn] [] []),
   (.iff (.cmp .notin (.var 3) (.fld [8] "_told" (.var 0))) [(.raise 3)] [] []),
   (.iff (.cmp .ne (.op .len (.cons (.var 4) .nil)) (.var 2)) [(.raise 5)] [] []),
   (.iff (.not (.x (.op .all (.cons (.comp [("lead", 5)] (.nm 5) (.seq (.var 4)) .tru (.cmp2 .le .lt (.int 0) (.var 5) (.meth "size_of" [(8, F.Kindbook_size_of)] [false, false] (.var 0) (.cons (.var 3) .nil)))) .nil)))) [(.raise 5)] [] [5])],
  none, .meth 8 "_check_record"⟩
def I_Kindbook_checked : FI := ⟨"Kindbook.checked", ["self", "name"], ["self", "name"], [false, false],
  [(.iff (.cmp .notin (.var 1) (.fld [8] "_told" (.var 0))) [(.raise 3)] [] []),
   (.retv 1)],
  none, .meth 8 "checked"⟩
def I_Kindbook_size_of : FI := ⟨"Kindbook.size_of", ["self", "name"], ["self", "name"], [false, false],
  [(.ret (.op .ix (.cons (.dget (.fld [8] "_told" (.var 0)) (.meth "checked" [(8, F.Kindbook_checked)] [false, false] (.var 0) (.cons (.var 1) .nil))) (.cons (.int 0) .nil))))],
  none, .meth 8 "size_of"⟩
def I_Kindbook_parent_of : FI := ⟨"Kindbook.parent_of", ["self", "name"], ["self", "name"], [false, false],
  [(.ret (.op .ix (.cons (.dget (.fld [8] "_told" (.var 0)) (.meth "checked" [(8, F.Kindbook_checked)] [false, false] (.var 0) (.cons (.var 1) .nil))) (.cons (.int 1) .nil))))],
  none, .meth 8 "parent_of"⟩
def I_Kindbook_leads_of : FI := ⟨"Kindbook.leads_of", ["self", "name"], ["self", "name"], [false, false],
  [(.ret (.op .ix (.cons (.dget (.fld [8] "_told" (.var 0)) (.meth "checked" [(8, F.Kindbook_checked)] [false, false] (.var 0) (.cons (.var 1) .nil))) (.cons (.int 2) .nil))))],
  none, .meth 8 "leads_of"⟩
def I_Kindbook_chain_of : FI := ⟨"Kindbook.chain_of", ["self", "name"], ["self", "name", "chain", "parent"], [false, false],
  [(.set 2 (.lst (.cons (.meth "checked" [(8, F.Kindbook_checked)] [false, false] (.var 0) (.cons (.var 1) .nil)) .nil))),
   (.setf 3 (.meth "parent_of" [(8, F.Kindbook_parent_of)] [false, false] (.var 0) (.cons (.var 1) .nil))),
   (.while (.isN true (.var 3)) [(.expr (.mut .append 2 (.cons (.var 3) .nil))), (.setf 3 (.meth "parent_of" [(8, F.Kindbook_parent_of)] [false, false] (.var 0) (.cons (.var 3) .nil)))] []),
   (.retv 2)],
  none, .meth 8 "chain_of"⟩
def I_Kindbook_members : FI := ⟨"Kindbook.members", ["self", "kind"], ["self", "kind", "names", "name", "number"], [false, false],
  [(.setf 2 (.ite (.cmp .eq (.var 1) (.glo "UNKNOWN" (.str "?"))) (.fld [8] "names" (.var 0)) (.tup (.cons (.meth "checked" [(8, F.Kindbook_checked)] [false, false] (.var 0) (.cons (.var 1) .nil)) .nil)))),
   (.ret (.comp2 [("name", 3), ("number", 4)] [4] (.nm 3) (.seq (.var 2)) .tru (.nm 4) (.rng (.meth "size_of" [(8, F.Kindbook_size_of)] [false, false] (.var 0) (.cons (.var 3) .nil))) .tru (.tup (.cons (.var 3) (.cons (.var 4) .nil)))))],
  none, .meth 8 "members"⟩
def I_Kindbook_led : FI := ⟨"Kindbook.led", ["self", "value", "kind"], ["self", "value", "kind", "name", "number", "chain", "step"], [false, false, false],
  [(.asg (.tup [(.nm 3), (.nm 4)]) (.var 1)),
   (.setf 5 (.meth "chain_of" [(8, F.Kindbook_chain_of)] [false, false] (.var 0) (.cons (.var 3) .nil))),
   (.iff (.cmp .eq (.var 2) (.glo "UNKNOWN" (.str "?"))) [(.ret (.tup (.cons (.var 3) (.cons (.var 4) .nil))))] [] []),
   (.iff (.cmp .notin (.meth "checked" [(8, F.Kindbook_checked)] [false, false] (.var 0) (.cons (.var 2) .nil)) (.var 5)) [(.ret .non)] [] []),
   (.for (.nm 6) (.seq (.op (.sl false true) (.cons (.var 5) (.cons (.bm .index (.var 5) (.cons (.var 2) .nil)) .nil)))) [(.setf 4 (.op .ix (.cons (.meth "leads_of" [(8, F.Kindbook_leads_of)] [false, false] (.var 0) (.cons (.var 6) .nil)) (.cons (.var 4) .nil))))] [6]),
   (.ret (.tup (.cons (.var 2) (.cons (.var 4) .nil))))],
  none, .meth 8 "led"⟩
def I_Kindbook_below : FI := ⟨"Kindbook.below", ["self", "lower", "upper"], ["self", "lower", "upper", "lower_names", "name"], [false, false, false],
  [(.setf 3 (.ite (.cmp .eq (.var 1) (.glo "UNKNOWN" (.str "?"))) (.fld [8] "names" (.var 0)) (.tup (.cons (.meth "checked" [(8, F.Kindbook_checked)] [false, false] (.var 0) (.cons (.var 1) .nil)) .nil)))),
   (.iff (.cmp .eq (.var 2) (.glo "UNKNOWN" (.str "?"))) [(.ret (.bl true))] [] []),
   (.expr (.meth "checked" [(8, F.Kindbook_checked)] [false, false] (.var 0) (.cons (.var 2) .nil))),
   (.ret (.op .all (.cons (.comp [("name", 4)] (.nm 4) (.seq (.var 3)) .tru (.op .isin (.cons (.var 2) (.cons (.meth "chain_of" [(8, F.Kindbook_chain_of)] [false, false] (.var 0) (.cons (.var 4) .nil)) .nil)))) .nil)))],
  none, .meth 8 "below"⟩
def I_Passage___init__ : FI := ⟨"Passage.__init__", ["self", "book", "start_kind", "end_kind", "borders", "gate", "gate_stage", "reached", "fail_stage"], ["self", "book", "start_kind", "end_kind", "borders", "gate", "gate_stage", "reached", "fail_stage"], [true, false, false, false, false, false, false, false, false],
  [(.setfld 9 0 "book" (.var 1)),
   (.setfld 9 0 "start_kind" (.var 2)),
   (.setfld 9 0 "end_kind" (.var 3)),
   (.setfld 9 0 "borders" (.var 4)),
   (.setfld 9 0 "gate" (.var 5)),
   (.setfld 9 0 "gate_stage" (.var 6)),
   (.setfld 9 0 "reached" (.var 7)),
   (.setfld 9 0 "fail_stage" (.var 8))],
  none, .meth 9 "__init__"⟩
def I_Passage_of : FI := ⟨"Passage.of", ["book", "kinds"], ["book", "kinds", "gate", "gate_stage", "reached", "fail_stage", "stage", "kind"], [false, false],
  [(.expr (.call F.check_kinds [false, false] (.cons (.var 0) (.cons (.var 1) .nil)))),
   (.expr (.call F.check_border [false, false, false] (.cons (.var 0) (.cons (.op (.sl false true) (.cons (.var 1) (.cons (.op .neg (.cons (.int 1) .nil)) .nil))) (.cons (.op (.sl true false) (.cons (.var 1) (.cons (.int 1) .nil))) .nil))))),
   (.setf 2 .non),
   (.setf 3 (.int 0)),
   (.setf 4 (.ite (.cmp .eq (.op .ix (.cons (.var 1) (.cons (.int 0) .nil))) (.glo "UNKNOWN" (.str "?"))) .non (.op .ix (.cons (.var 1) (.cons (.int 0) .nil))))),
   (.setf 5 (.int 0)),
   (.for (.tup [(.nm 6), (.nm 7)]) (.enums (.op (.sl true false) (.cons (.var 1) (.cons (.int 1) .nil))) 1) [(.iff (.and (.cmp .ne (.var 7) (.glo "UNKNOWN" (.str "?"))) (.cmp .eq (.var 5) (.int 0))) [(.iff (.isN false (.var 4)) [(.setf 2 (.var 7)), (.setf 3 (.var 6)), (.setf 4 (.var 7))] [(.iff (.x (.meth "below" [(8, F.Kindbook_below)] [false, false, false] (.var 0) (.cons (.var 4) (.cons (.var 7) .nil)))) [(.setf 4 (.var 7))] [(.setf 5 (.var 6))] [])] [])] [] [])] [6, 7]),
   (.ret (.make 9 F.Passage___init__ (.cons (.var 0) (.cons (.op .ix (.cons (.var 1) (.cons (.int 0) .nil))) (.cons (.op .ix (.cons (.var 1) (.cons (.op .neg (.cons (.int 1) .nil)) .nil))) (.cons (.op .sub (.cons (.op .len (.cons (.var 1) .nil)) (.cons (.int 1) .nil))) (.cons (.var 2) (.cons (.var 3) (.cons (.var 4) (.cons (.var 5) .nil))))))))))],
  none, .stat 9 "of"⟩
def I_Passage_then : FI := ⟨"Passage.then", ["self", "other"], ["self", "other", "gate", "gate_stage", "reached", "fail_stage", "borders"], [false, false],
  [(.iff (.cmp .ne (.fld [9] "start_kind" (.var 1)) (.fld [9] "end_kind" (.var 0))) [(.raise 6)] [] []),
   (.asg (.tup [(.nm 2), (.nm 3), (.nm 4), (.nm 5)]) (.meth "_joined_parts" [(9, F.Passage__joined_parts)] [false, false] (.var 0) (.cons (.var 1) .nil))),
   (.setf 6 (.op .add (.cons (.fld [9] "borders" (.var 0)) (.cons (.fld [9] "borders" (.var 1)) .nil)))),
   (.ret (.make 9 F.Passage___init__ (.cons (.fld [9] "book" (.var 0)) (.cons (.fld [9] "start_kind" (.var 0)) (.cons (.fld [9] "end_kind" (.var 1)) (.cons (.var 6) (.cons (.var 2) (.cons (.var 3) (.cons (.var 4) (.cons (.var 5) .nil))))))))))],
  none, .meth 9 "then"⟩
def I_Passage__joined_parts : FI := ⟨"Passage._joined_parts", ["self", "other"], ["self", "other", "next_gate_stage", "next_fail_stage", "reached"], [false, false],
  [(.iff (.cmp .gt (.fld [9] "fail_stage" (.var 0)) (.int 0)) [(.ret (.tup (.cons (.fld [9] "gate" (.var 0)) (.cons (.fld [9] "gate_stage" (.var 0)) (.cons (.fld [9] "reached" (.var 0)) (.cons (.fld [9] "fail_stage" (.var 0)) .nil))))))] [] []),
   (.setf 2 (.meth "_stage_behind" [(9, F.Passage__stage_behind)] [false, false] (.var 0) (.cons (.fld [9] "gate_stage" (.var 1)) .nil))),
   (.setf 3 (.meth "_stage_behind" [(9, F.Passage__stage_behind)] [false, false] (.var 0) (.cons (.fld [9] "fail_stage" (.var 1)) .nil))),
   (.iff (.isN false (.fld [9] "reached" (.var 0))) [(.ret (.tup (.cons (.fld [9] "gate" (.var 1)) (.cons (.var 2) (.cons (.fld [9] "reached" (.var 1)) (.cons (.var 3) .nil))))))] [] []),
   (.iff (.and (.isN true (.fld [9] "gate" (.var 1))) (.not (.x (.meth "below" [(8, F.Kindbook_below)] [false, false, false] (.fld [9] "book" (.var 0)) (.cons (.fld [9] "reached" (.var 0)) (.cons (.fld [9] "gate" (.var 1)) .nil)))))) [(.ret (.tup (.cons (.fld [9] "gate" (.var 0)) (.cons (.fld [9] "gate_stage" (.var 0)) (.cons (.fld [9] "reached" (.var 0)) (.cons (.var 2) .nil))))))] [] []),
   (.setf 4 (.ite (.isN false (.fld [9] "reached" (.var 1))) (.fld [9] "reached" (.var 0)) (.fld [9] "reached" (.var 1)))),
   (.ret (.tup (.cons (.fld [9] "gate" (.var 0)) (.cons (.fld [9] "gate_stage" (.var 0)) (.cons (.var 4) (.cons (.var 3) .nil))))))],
  none, .meth 9 "_joined_parts"⟩
def I_Passage__stage_behind : FI := ⟨"Passage._stage_behind", ["self", "stage"], ["self", "stage"], [false, false],
  [(.ret (.ite (.cmp .gt (.var 1) (.int 0)) (.op .add (.cons (.fld [9] "borders" (.var 0)) (.cons (.var 1) .nil))) (.int 0)))],
  none, .meth 9 "_stage_behind"⟩
def I_Passage_stage : FI := ⟨"Passage.stage", ["self", "value"], ["self", "value"], [false, false],
  [(.iff (.and (.isN true (.fld [9] "gate" (.var 0))) (.not (.x (.meth "below" [(8, F.Kindbook_below)] [false, false, false] (.fld [9] "book" (.var 0)) (.cons (.op .ix (.cons (.var 1) (.cons (.int 0) .nil))) (.cons (.fld [9] "gate" (.var 0)) .nil)))))) [(.ret (.fld [9] "gate_stage" (.var 0)))] [] []),
   (.ret (.fld [9] "fail_stage" (.var 0)))],
  none, .meth 9 "stage"⟩
def I_Passage_lead : FI := ⟨"Passage.lead", ["self", "value"], ["self", "value"], [false, false],
  [(.iff (.cmp .gt (.meth "stage" [(9, F.Passage_stage)] [false, false] (.var 0) (.cons (.var 1) .nil)) (.int 0)) [(.ret .non)] [] []),
   (.iff (.isN false (.fld [9] "reached" (.var 0))) [(.retv 1)] [] []),
   (.ret (.meth "led" [(8, F.Kindbook_led)] [false, false, false] (.fld [9] "book" (.var 0)) (.cons (.var 1) (.cons (.fld [9] "reached" (.var 0)) .nil))))],
  none, .meth 9 "lead"⟩
def I_Passage_passing : FI := ⟨"Passage.passing", ["self"], ["self", "value"], [false],
  [(.ret (.comp [("value", 1)] (.nm 1) (.seq (.meth "members" [(8, F.Kindbook_members)] [false, false] (.fld [9] "book" (.var 0)) (.cons (.fld [9] "start_kind" (.var 0)) .nil))) (.cmp .eq (.meth "stage" [(9, F.Passage_stage)] [false, false] (.var 0) (.cons (.var 1) .nil)) (.int 0)) (.var 1)))],
  none, .meth 9 "passing"⟩
def I_L_draws : FI := ⟨"_law_draws", ["_law_script"], ["_law_script", "_law_draws_here", "_law_cell", "_law_rest", "_law_k"], [false],
  [(.set 1 (.lst .nil)),
   (.for (.nm 2) (.seq (.var 0)) [(.setf 3 (.op .int1 (.cons (.var 2) .nil))), (.iff (.cmp2 .le .lt (.int 0) (.var 3) (.int 1000)) [(.expr (.mut .append 1 (.cons (.var 3) .nil)))] [(.iff (.cmp .ge (.var 3) (.op .pow (.cons (.int 10) (.cons (.int 18) .nil)))) [(.for (.nm 4) (.rng (.int 60)) [(.iff (.cmp .gt (.var 3) (.int 0)) [(.expr (.mut .append 1 (.cons (.op .mod (.cons (.op .int1 (.cons (.var 3) .nil)) (.cons (.int 1000) .nil))) .nil))), (.setf 3 (.op .fdiv (.cons (.var 3) (.cons (.int 1000) .nil))))] [] [])] [4])] [(.setf 3 (.op .mod (.cons (.op .int1 (.cons (.op .mul (.cons (.var 3) (.cons (.int 48271) .nil))) .nil)) (.cons (.int 2147483647) .nil)))), (.for (.nm 4) (.rng (.int 4)) [(.setf 3 (.op .mod (.cons (.op .int1 (.cons (.op .mul (.cons (.var 3) (.cons (.int 69621) .nil))) .nil)) (.cons (.int 2147483629) .nil)))), (.expr (.mut .append 1 (.cons (.op .mod (.cons (.op .int1 (.cons (.op .fdiv (.cons (.var 3) (.cons (.int 7) .nil))) .nil)) (.cons (.int 1000) .nil))) .nil)))] [4])] [4])] [4])] [2, 3, 4]),
   (.expr (.mut .reverse 1 .nil)),
   (.retv 1)],
  none, .no⟩
def I_L_draw : FI := ⟨"_law_draw", ["_law_draws_here", "_law_many"], ["_law_draws_here", "_law_many"], [true, false],
  [(.iff (.cmp .eq (.op .len (.cons (.var 0) .nil)) (.int 0)) [(.ret (.int 0))] [] []),
   (.ret (.op .mod (.cons (.op .int1 (.cons (.mut .pop 0 .nil) .nil)) (.cons (.var 1) .nil))))],
  none, .no⟩
def I_L_pick : FI := ⟨"_law_pick", ["_law_draws_here", "_law_things"], ["_law_draws_here", "_law_things"], [true, false],
  [(.ret (.op .ix (.cons (.var 1) (.cons (.call F.L_draw [true, false] (.cons (.var 0) (.cons (.op .len (.cons (.var 1) .nil)) .nil))) .nil))))],
  none, .no⟩
def I_L_same : FI := ⟨"_law_same", ["_law_actual", "_law_due"], ["_law_actual", "_law_due", "_law_k"], [false, false],
  [(.iff (.or (.x (.op (.isinst ["bool"]) (.cons (.var 1) .nil))) (.x (.op (.isinst ["bool"]) (.cons (.var 0) .nil)))) [(.ret (.and (.op (.isinst ["bool"]) (.cons (.var 1) .nil)) (.and (.op (.isinst ["bool"]) (.cons (.var 0) .nil)) (.op .eq (.cons (.var 0) (.cons (.var 1) .nil))))))] [] []),
   (.iff (.or (.isN false (.var 1)) (.isN false (.var 0))) [(.ret (.and (.op .isN (.cons (.var 1) .nil)) (.op .isN (.cons (.var 0) .nil))))] [] []),
   (.iff (.x (.op (.isinst ["int"]) (.cons (.var 1) .nil))) [(.ret (.and (.op (.isinst ["int"]) (.cons (.var 0) .nil)) (.op .eq (.cons (.var 0) (.cons (.var 1) .nil)))))] [] []),
   (.iff (.x (.op (.isinst ["str"]) (.cons (.var 1) .nil))) [(.ret (.and (.op (.isinst ["str"]) (.cons (.var 0) .nil)) (.op .eq (.cons (.var 0) (.cons (.var 1) .nil)))))] [] []),
   (.iff (.and (.x (.op (.isinst ["tuple"]) (.cons (.var 1) .nil))) (.not (.x (.op (.isinst ["tuple"]) (.cons (.var 0) .nil))))) [(.ret (.bl false))] [] []),
   (.iff (.and (.x (.op (.isinst ["list"]) (.cons (.var 1) .nil))) (.not (.x (.op (.isinst ["list"]) (.cons (.var 0) .nil))))) [(.ret (.bl false))] [] []),
   (.iff (.cmp .ne (.op .len (.cons (.var 0) .nil)) (.op .len (.cons (.var 1) .nil))) [(.ret (.bl false))] [] []),
   (.for (.nm 2) (.rng (.op .len (.cons (.var 1) .nil))) [(.iff (.not (.x (.call F.L_same [false, false] (.cons (.op .ix (.cons (.var 0) (.cons (.var 2) .nil))) (.cons (.op .ix (.cons (.var 1) (.cons (.var 2) .nil))) .nil))))) [(.ret (.bl false))] [] [])] [2]),
   (.ret (.bl true))],
  none, .no⟩
def I_L_names : FI := ⟨"_law_names", ["_law_draws_here", "_law_many"], ["_law_draws_here", "_law_many", "_law_letters", "_law_start", "_law_step", "_law_ahead", "_law_behind", "_law_names_here", "_law_k"], [true, false],
  [(.setf 2 (.str "abcdefghijklmnopqrstuvwxyz")),
   (.setf 3 (.call F.L_draw [true, false] (.cons (.var 0) (.cons (.int 26) .nil)))),
   (.setf 4 (.call F.L_pick [true, false] (.cons (.var 0) (.cons (.lst (.cons (.int 1) (.cons (.int 25) (.cons (.int 3) (.cons (.int 7) .nil))))) .nil)))),
   (.setf 5 (.op .mul (.cons (.str "m") (.cons (.call F.L_draw [true, false] (.cons (.var 0) (.cons (.int 4) .nil))) .nil)))),
   (.setf 6 (.op .mul (.cons (.str "m") (.cons (.call F.L_draw [true, false] (.cons (.var 0) (.cons (.int 4) .nil))) .nil)))),
   (.set 7 (.lst .nil)),
   (.for (.nm 8) (.rng (.var 1)) [(.expr (.mut .append 7 (.cons (.op .add (.cons (.op .add (.cons (.var 5) (.cons (.op .ix (.cons (.var 2) (.cons (.op .mod (.cons (.op .int1 (.cons (.op .add (.cons (.var 3) (.cons (.op .mul (.cons (.var 8) (.cons (.var 4) .nil))) .nil))) .nil)) (.cons (.int 26) .nil))) .nil))) .nil))) (.cons (.var 6) .nil))) .nil)))] [8]),
   (.retv 7)],
  none, .no⟩
def I_L_book : FI := ⟨"_law_book", ["_law_draws_here", "_law_most"], ["_law_draws_here", "_law_most", "_law_names_here", "_law_rows", "_law_k", "_law_size", "_law_at", "_law_parent", "_law_leads", "_law_n"], [true, false],
  [(.setf 2 (.call F.L_names [true, false] (.cons (.var 0) (.cons (.var 1) .nil)))),
   (.set 3 (.lst .nil)),
   (.for (.nm 4) (.rng (.op .add (.cons (.int 1) (.cons (.op .mod (.cons (.op .int1 (.cons (.op .add (.cons (.int 1) (.cons (.call F.L_draw [true, false] (.cons (.var 0) (.cons (.var 1) .nil))) .nil))) .nil)) (.cons (.var 1) .nil))) .nil)))) [(.setf 5 (.call F.L_pick [true, false] (.cons (.var 0) (.cons (.lst (.cons (.int 2) (.cons (.int 3) (.cons (.int 1) (.cons (.int 4) .nil))))) .nil)))), (.setf 6 (.call F.L_draw [true, false] (.cons (.var 0) (.cons (.op .add (.cons (.var 4) (.cons (.int 1) .nil))) .nil)))), (.iff (.cmp .eq (.var 6) (.int 0)) [(.expr (.mut .append 3 (.cons (.tup (.cons (.op .ix (.cons (.var 2) (.cons (.var 4) .nil))) (.cons (.var 5) (.cons .non (.cons (.tup .nil) .nil))))) .nil)))] [(.setf 7 (.op .ix (.cons (.var 3) (.cons (.op .sub (.cons (.var 6) (.cons (.int 1) .nil))) .nil)))), (.setf 8 (.comp [("_law_n", 9)] (.nm 9) (.rng (.var 5)) .tru (.call F.L_draw [true, false] (.cons (.var 0) (.cons (.op .ix (.cons (.var 7) (.cons (.int 1) .nil))) .nil))))), (.expr (.mut .append 3 (.cons (.tup (.cons (.op .ix (.cons (.var 2) (.cons (.var 4) .nil))) (.cons (.var 5) (.cons (.op .ix (.cons (.var 7) (.cons (.int 0) .nil))) (.cons (.op .tuple (.cons (.var 8) .nil)) .nil))))) .nil)))] [9])] [4, 5, 6, 7, 8, 9]),
   (.retv 3)],
  none, .no⟩
def I_L_row : FI := ⟨"_law_row", ["_law_rows", "_law_name"], ["_law_rows", "_law_name", "_law_row_here"], [false, false],
  [(.for (.nm 2) (.seq (.var 0)) [(.iff (.cmp .eq (.op .ix (.cons (.var 2) (.cons (.int 0) .nil))) (.var 1)) [(.retv 2)] [] [])] [2]),
   (.ret (.op .ix (.cons (.var 0) (.cons (.int 0) .nil))))],
  none, .no⟩
def I_L_chain : FI := ⟨"_law_chain", ["_law_rows", "_law_name"], ["_law_rows", "_law_name", "_law_chain_here", "_law_k"], [false, false],
  [(.set 2 (.lst .nil)),
   (.for (.nm 3) (.rng (.op .len (.cons (.var 0) .nil))) [(.iff (.isN true (.var 1)) [(.expr (.mut .append 2 (.cons (.var 1) .nil))), (.setf 1 (.op .ix (.cons (.call F.L_row [false, false] (.cons (.var 0) (.cons (.var 1) .nil))) (.cons (.int 2) .nil))))] [] [])] [3]),
   (.retv 2)],
  none, .no⟩
def I_L_members : FI := ⟨"_law_members", ["_law_rows", "_law_kind"], ["_law_rows", "_law_kind", "_law_members_here", "_law_row_here", "_law_n"], [false, false],
  [(.set 2 (.lst .nil)),
   (.for (.nm 3) (.seq (.var 0)) [(.iff (.or (.cmp .eq (.var 1) (.str "?")) (.cmp .eq (.var 1) (.op .ix (.cons (.var 3) (.cons (.int 0) .nil))))) [(.set 2 (.op .add (.cons (.var 2) (.cons (.comp [("_law_n", 4)] (.nm 4) (.rng (.op .ix (.cons (.var 3) (.cons (.int 1) .nil)))) .tru (.tup (.cons (.op .ix (.cons (.var 3) (.cons (.int 0) .nil))) (.cons (.var 4) .nil)))) .nil))))] [] [])] [3]),
   (.retv 2)],
  none, .no⟩
def I_L_led : FI := ⟨"_law_led", ["_law_rows", "_law_value", "_law_kind"], ["_law_rows", "_law_value", "_law_kind", "_law_k", "_law_row_here"], [false, false, false],
  [(.iff (.cmp .eq (.var 2) (.str "?")) [(.retv 1)] [] []),
   (.for (.nm 3) (.rng (.op .len (.cons (.var 0) .nil))) [(.iff (.and (.isN true (.var 1)) (.cmp .ne (.op .ix (.cons (.var 1) (.cons (.int 0) .nil))) (.var 2))) [(.setf 4 (.call F.L_row [false, false] (.cons (.var 0) (.cons (.op .ix (.cons (.var 1) (.cons (.int 0) .nil))) .nil)))), (.iff (.isN false (.op .ix (.cons (.var 4) (.cons (.int 2) .nil)))) [(.set 1 .non)] [(.set 1 (.tup (.cons (.op .ix (.cons (.var 4) (.cons (.int 2) .nil))) (.cons (.op .ix (.cons (.op .ix (.cons (.var 4) (.cons (.int 3) .nil))) (.cons (.op .ix (.cons (.var 1) (.cons (.int 1) .nil))) .nil))) .nil))))] [])] [] [])] [3, 4]),
   (.retv 1)],
  none, .no⟩
def I_L_sequence : FI := ⟨"_law_sequence", ["_law_draws_here", "_law_rows", "_law_borders", "_law_column"], ["_law_draws_here", "_law_rows", "_law_borders", "_law_column", "_law_menu", "_law_kind", "_law_kinds", "_law_k", "_law_row_here"], [true, false, false, false],
  [(.setf 4 (.op .add (.cons (.comp [("_law_row_here", 8)] (.nm 8) (.seq (.var 1)) .tru (.op .ix (.cons (.var 8) (.cons (.int 0) .nil)))) (.cons (.lst (.cons (.str "?") .nil)) .nil)))),
   (.setf 5 (.op .ix (.cons (.var 4) (.cons (.op .mod (.cons (.op .int1 (.cons (.op .add (.cons (.call F.L_draw [true, false] (.cons (.var 0) (.cons (.op .len (.cons (.var 4) .nil)) .nil))) (.cons (.op .mul (.cons (.int 2) (.cons (.var 3) .nil))) .nil))) .nil)) (.cons (.op .len (.cons (.var 4) .nil)) .nil))) .nil)))),
   (.set 6 (.lst (.cons (.var 5) .nil))),
   (.for (.nm 7) (.rng (.var 2)) [(.setf 4 (.op .add (.cons (.comp [("_law_row_here", 8)] (.nm 8) (.seq (.var 1)) .tru (.op .ix (.cons (.var 8) (.cons (.int 0) .nil)))) (.cons (.lst (.cons (.str "?") .nil)) .nil)))), (.iff (.cmp .ne (.var 5) (.str "?")) [(.setf 4 (.op .add (.cons (.call F.L_chain [false, false] (.cons (.var 1) (.cons (.var 5) .nil))) (.cons (.lst (.cons (.str "?") .nil)) .nil))))] [] []), (.setf 5 (.op .ix (.cons (.var 4) (.cons (.op .mod (.cons (.op .int1 (.cons (.op .add (.cons (.call F.L_draw [true, false] (.cons (.var 0) (.cons (.op .len (.cons (.var 4) .nil)) .nil))) (.cons (.var 7) .nil))) .nil)) (.cons (.op .len (.cons (.var 4) .nil)) .nil))) .nil)))), (.expr (.mut .append 6 (.cons (.var 5) .nil)))] [4, 7]),
   (.retv 6)],
  none, .no⟩
def I_L_walked : FI := ⟨"_law_walked", ["_law_rows", "_law_kinds", "_law_value"], ["_law_rows", "_law_kinds", "_law_value", "_law_stage"], [false, false, false],
  [(.for (.nm 3) (.rng2 (.int 1) (.op .len (.cons (.var 1) .nil))) [(.setf 2 (.call F.L_led [false, false, false] (.cons (.var 0) (.cons (.var 2) (.cons (.op .ix (.cons (.var 1) (.cons (.var 3) .nil))) .nil))))), (.iff (.isN false (.var 2)) [(.ret (.tup (.cons (.var 3) (.cons .non .nil))))] [] [])] [3]),
   (.ret (.tup (.cons (.int 0) (.cons (.var 2) .nil))))],
  none, .no⟩
def I_L_last_told : FI := ⟨"_law_last_told", ["_law_kinds"], ["_law_kinds", "_law_last", "_law_kind"], [false],
  [(.set 1 (.str "?")),
   (.for (.nm 2) (.seq (.op (.sl true false) (.cons (.var 0) (.cons (.int 1) .nil)))) [(.iff (.cmp .ne (.var 2) (.str "?")) [(.set 1 (.var 2))] [] [])] [2]),
   (.retv 1)],
  none, .no⟩
def I_L_less_told : FI := ⟨"_law_less_told", ["_law_kinds", "_law_bits"], ["_law_kinds", "_law_bits", "_law_less", "_law_k"], [false, false],
  [(.set 2 (.lst (.cons (.op .ix (.cons (.var 0) (.cons (.int 0) .nil))) .nil))),
   (.for (.nm 3) (.rng2 (.int 1) (.op .len (.cons (.var 0) .nil))) [(.iff (.cmp .eq (.op .band (.cons (.op .shr (.cons (.var 1) (.cons (.op .sub (.cons (.var 3) (.cons (.int 1) .nil))) .nil))) (.cons (.int 1) .nil))) (.int 1)) [(.expr (.mut .append 2 (.cons (.str "?") .nil)))] [(.expr (.mut .append 2 (.cons (.op .ix (.cons (.var 0) (.cons (.var 3) .nil))) .nil)))] [])] [3]),
   (.retv 2)],
  none, .no⟩
def I_L_passage_so : FI := ⟨"_law_passage_so", ["_law_rows", "_law_passage", "_law_kinds"], ["_law_rows", "_law_passage", "_law_kinds", "_law_value", "_law_passing", "_law_told", "_law_stage", "_law_end"], [false, false, false],
  [(.for (.nm 3) (.seq (.call F.L_members [false, false] (.cons (.var 0) (.cons (.op .ix (.cons (.var 2) (.cons (.int 0) .nil))) .nil)))) [(.asg (.tup [(.nm 6), (.nm 7)]) (.call F.L_walked [false, false, false] (.cons (.var 0) (.cons (.var 2) (.cons (.var 3) .nil))))), (.iff (.not (.x (.call F.L_same [false, false] (.cons (.lst (.cons (.meth "stage" [(9, F.Passage_stage)] [false, false] (.var 1) (.cons (.var 3) .nil)) (.cons (.meth "lead" [(9, F.Passage_lead)] [false, false] (.var 1) (.cons (.var 3) .nil)) .nil))) (.cons (.lst (.cons (.var 6) (.cons (.var 7) .nil))) .nil))))) [(.ret (.bl false))] [] [])] [6, 7]),
   (.setf 4 (.comp [("_law_value", 3)] (.nm 3) (.seq (.call F.L_members [false, false] (.cons (.var 0) (.cons (.op .ix (.cons (.var 2) (.cons (.int 0) .nil))) .nil)))) (.cmp .eq (.op .ix (.cons (.call F.L_walked [false, false, false] (.cons (.var 0) (.cons (.var 2) (.cons (.var 3) .nil)))) (.cons (.int 0) .nil))) (.int 0)) (.var 3))),
   (.setf 5 (.lst (.cons (.fld [9] "start_kind" (.var 1)) (.cons (.fld [9] "end_kind" (.var 1)) (.cons (.fld [9] "borders" (.var 1)) (.cons (.meth "passing" [(9, F.Passage_passing)] [false] (.var 1) .nil) .nil)))))),
   (.ret (.call F.L_same [false, false] (.cons (.var 5) (.cons (.lst (.cons (.op .ix (.cons (.var 2) (.cons (.int 0) .nil))) (.cons (.op .ix (.cons (.var 2) (.cons (.op .sub (.cons (.op .len (.cons (.var 2) .nil)) (.cons (.int 1) .nil))) .nil))) (.cons (.op .sub (.cons (.op .len (.cons (.var 2) .nil)) (.cons (.int 1) .nil))) (.cons (.var 4) .nil))))) .nil))))],
  none, .no⟩
def I_law : FI := ⟨"law", ["_law_script"], ["_law_script", "_law_draws_here", "_law_rows", "_law_borders", "_law_kinds", "_law_book_here", "_law_passage", "_law_last", "_law_k", "_law_less", "_law_at", "_law_thinner", "_law_parts", "_law_value", "_law_old", "_law_new"], [false],
  [(.set 1 (.call F.L_draws [false] (.cons (.var 0) .nil))),
   (.setf 2 (.call F.L_book [true, false] (.cons (.var 1) (.cons (.int 4) .nil)))),
   (.setf 3 (.op .add (.cons (.int 1) (.cons (.op .mod (.cons (.op .int1 (.cons (.op .add (.cons (.int 2) (.cons (.call F.L_draw [true, false] (.cons (.var 1) (.cons (.int 5) .nil))) .nil))) .nil)) (.cons (.int 5) .nil))) .nil)))),
   (.setf 4 (.call F.L_sequence [true, false, false, false] (.cons (.var 1) (.cons (.var 2) (.cons (.var 3) (.cons (.call F.L_draw [true, false] (.cons (.var 1) (.cons (.int 2) .nil))) .nil)))))),
   (.setf 5 (.make 8 F.Kindbook___init__ (.cons (.op .list (.cons (.var 2) .nil)) .nil))),
   (.setf 6 (.scall F.Passage_of [false, false] (.cons (.var 5) (.cons (.op .list (.cons (.var 4) .nil)) .nil)))),
   (.iff (.not (.x (.call F.L_passage_so [false, false, false] (.cons (.var 2) (.cons (.var 6) (.cons (.var 4) .nil)))))) [(.ret (.bl false))] [] []),
   (.setf 7 (.call F.L_last_told [false] (.cons (.var 4) .nil))),
   (.for (.nm 8) (.rng (.int 8)) [(.setf 9 (.call F.L_less_told [false, false] (.cons (.var 4) (.cons (.op .mod (.cons (.op .int1 (.cons (.op .add (.cons (.call F.L_draw [true, false] (.cons (.var 1) (.cons (.int 32) .nil))) (.cons (.op .mul (.cons (.int 7) (.cons (.var 8) .nil))) .nil))) .nil)) (.cons (.int 32) .nil))) .nil)))), (.setf 10 (.call F.L_draw [true, false] (.cons (.var 1) (.cons (.op .add (.cons (.var 3) (.cons (.int 1) .nil))) .nil)))), (.setf 11 (.scall F.Passage_of [false, false] (.cons (.var 5) (.cons (.op .tuple (.cons (.var 9) .nil)) .nil)))), (.iff (.not (.x (.call F.L_passage_so [false, false, false] (.cons (.var 2) (.cons (.var 11) (.cons (.var 9) .nil)))))) [(.ret (.bl false))] [] []), (.setf 12 (.meth "then" [(9, F.Passage_then)] [false, false] (.scall F.Passage_of [false, false] (.cons (.var 5) (.cons (.op (.sl false true) (.cons (.var 9) (.cons (.op .add (.cons (.var 10) (.cons (.int 1) .nil))) .nil))) .nil))) (.cons (.scall F.Passage_of [false, false] (.cons (.var 5) (.cons (.op (.sl true false) (.cons (.var 9) (.cons (.var 10) .nil))) .nil))) .nil))), (.for (.nm 13) (.seq (.call F.L_members [false, false] (.cons (.var 2) (.cons (.op .ix (.cons (.var 4) (.cons (.int 0) .nil))) .nil)))) [(.setf 14 (.meth "lead" [(9, F.Passage_lead)] [false, false] (.var 6) (.cons (.var 13) .nil))), (.setf 15 (.meth "lead" [(9, F.Passage_lead)] [false, false] (.var 11) (.cons (.var 13) .nil))), (.iff (.not (.x (.call F.L_same [false, false] (.cons (.meth "lead" [(9, F.Passage_lead)] [false, false] (.var 12) (.cons (.var 13) .nil)) (.cons (.var 15) .nil))))) [(.ret (.bl false))] [] []), (.iff (.isN true (.var 14)) [(.iff (.or (.isN false (.var 15)) (.cmp .ne (.meth "stage" [(9, F.Passage_stage)] [false, false] (.var 11) (.cons (.var 13) .nil)) (.int 0))) [(.ret (.bl false))] [] []), (.iff (.or (.not (.x (.call F.L_same [false, false] (.cons (.call F.L_led [false, false, false] (.cons (.var 2) (.cons (.var 15) (.cons (.var 7) .nil)))) (.cons (.var 14) .nil))))) (.not (.x (.call F.L_same [false, false] (.cons (.meth "led" [(8, F.Kindbook_led)] [false, false, false] (.var 5) (.cons (.var 15) (.cons (.var 7) .nil))) (.cons (.var 14) .nil)))))) [(.ret (.bl false))] [] []), (.iff (.and (.cmp .eq (.var 7) (.str "?")) (.not (.x (.call F.L_same [false, false] (.cons (.var 14) (.cons (.var 13) .nil)))))) [(.ret (.bl false))] [] [])] [] [])] [])] [8, 9, 10, 11, 12, 13, 14, 15]),
   (.ret (.bl true))],
  none, .no⟩
def Tb : Tab := ⟨[I_is_name, I_check_name, I_check_kinds, I_check_border, I_Kindbook___init__, I_Kindbook__check_record, I_Kindbook_checked, I_Kindbook_size_of, I_Kindbook_parent_of, I_Kindbook_leads_of, I_Kindbook_chain_of, I_Kindbook_members, I_Kindbook_led, I_Kindbook_below, I_Passage___init__, I_Passage_of, I_Passage_then, I_Passage__joined_parts, I_Passage__stage_behind, I_Passage_stage, I_Passage_lead, I_Passage_passing, I_L_draws, I_L_draw, I_L_pick, I_L_same, I_L_names, I_L_book, I_L_row, I_L_chain, I_L_members, I_L_led, I_L_sequence, I_L_walked, I_L_last_told, I_L_less_told, I_L_passage_so, I_law], ["all", "bool", "enumerate", "int", "isinstance", "len", "list", "range", "str", "tuple", "zip"], [("UNKNOWN", (.str "?")), ("_LONGEST_NAME", (.int 8))], ["FormroadsError", "InvalidName", "DuplicateName", "UnknownName", "TooMany", "InvalidKind", "NotJoined", "Clash"], [(8, ⟨"Kindbook", ["_told", "names"], [("MOST", (.int 5)), ("MOST_SIZE", (.int 4))], true⟩), (9, ⟨"Passage", ["book", "borders", "end_kind", "fail_stage", "gate", "gate_stage", "reached", "start_kind"], [], true⟩)]⟩
def subT : Nat → Nat → Option Bool
  | _, _ => none
def Pr : Prog := ⟨Tb.fs, subT, 100000⟩
theorem ck_is_name : chkCs Tb I_is_name.N (defScope (topS 12)) I_is_name.body (defBody (topS 12)) = true := by decide +kernel
theorem ck_check_name : chkCs Tb I_check_name.N (defScope (topS 13)) I_check_name.body (defBody (topS 13)) = true := by decide +kernel
theorem ck_check_kinds : chkCs Tb I_check_kinds.N (defScope (topS 18)) I_check_kinds.body (defBody (topS 18)) = true := by decide +kernel
theorem ck_check_border : chkCs Tb I_check_border.N (defScope (topS 19)) I_check_border.body (defBody (topS 19)) = true := by decide +kernel
theorem ck_Kindbook__check_record : chkCs Tb I_Kindbook__check_record.N (defScope (inClass (topS 16) 3)) I_Kindbook__check_record.body (defBody (inClass (topS 16) 3)) = true := by decide +kernel
theorem ck_Kindbook_checked : chkCs Tb I_Kindbook_checked.N (defScope (inClass (topS 16) 6)) I_Kindbook_checked.body (defBody (inClass (topS 16) 6)) = true := by decide +kernel
theorem ck_Kindbook_size_of : chkCs Tb I_Kindbook_size_of.N (defScope (inClass (topS 16) 7)) I_Kindbook_size_of.body (defBody (inClass (topS 16) 7)) = true := by decide +kernel
theorem ck_Kindbook_parent_of : chkCs Tb I_Kindbook_parent_of.N (defScope (inClass (topS 16) 8)) I_Kindbook_parent_of.body (defBody (inClass (topS 16) 8)) = true := by decide +kernel
theorem ck_Kindbook_leads_of : chkCs Tb I_Kindbook_leads_of.N (defScope (inClass (topS 16) 9)) I_Kindbook_leads_of.body (defBody (inClass (topS 16) 9)) = true := by decide +kernel
theorem ck_Kindbook_chain_of : chkCs Tb I_Kindbook_chain_of.N (defScope (inClass (topS 16) 10)) I_Kindbook_chain_of.body (defBody (inClass (topS 16) 10)) = true := by decide +kernel
theorem ck_Kindbook_members : chkCs Tb I_Kindbook_members.N (defScope (inClass (topS 16) 11)) I_Kindbook_members.body (defBody (inClass (topS 16) 11)) = true := by decide +kernel
theorem ck_Kindbook_led : chkCs Tb I_Kindbook_led.N (defScope (inClass (topS 16) 12)) I_Kindbook_led.body (defBody (inClass (topS 16) 12)) = true := by decide +kernel
theorem ck_Kindbook_below : chkCs Tb I_Kindbook_below.N (defScope (inClass (topS 16) 13)) I_Kindbook_below.body (defBody (inClass (topS 16) 13)) = true := by decide +kernel
theorem ck_Passage___init__ : chkCs Tb I_Passage___init__.N (defScope (inClass (topS 21) 0)) I_Passage___init__.body (defBody (inClass (topS 21) 0)) = true := by decide +kernel
theorem ck_Passage_of : chkCs Tb I_Passage_of.N (defScope (inClass (topS 21) 1)) I_Passage_of.body (defBody (inClass (topS 21) 1)) = true := by decide +kernel
theorem ck_Passage_then : chkCs Tb I_Passage_then.N (defScope (inClass (topS 21) 2)) I_Passage_then.body (defBody (inClass (topS 21) 2)) = true := by decide +kernel
theorem ck_Passage__joined_parts : chkCs Tb I_Passage__joined_parts.N (defScope (inClass (topS 21) 3)) I_Passage__joined_parts.body (defBody (inClass (topS 21) 3)) = true := by decide +kernel
theorem ck_Passage__stage_behind : chkCs Tb I_Passage__stage_behind.N (defScope (inClass (topS 21) 4)) I_Passage__stage_behind.body (defBody (inClass (topS 21) 4)) = true := by decide +kernel
theorem ck_Passage_stage : chkCs Tb I_Passage_stage.N (defScope (inClass (topS 21) 6)) I_Passage_stage.body (defBody (inClass (topS 21) 6)) = true := by decide +kernel
theorem ck_Passage_lead : chkCs Tb I_Passage_lead.N (defScope (inClass (topS 21) 7)) I_Passage_lead.body (defBody (inClass (topS 21) 7)) = true := by decide +kernel
theorem ck_Passage_passing : chkCs Tb I_Passage_passing.N (defScope (inClass (topS 21) 8)) I_Passage_passing.body (defBody (inClass (topS 21) 8)) = true := by decide +kernel
theorem ck_L_draws : chkCs Tb I_L_draws.N (defScope (topS 23)) I_L_draws.body (defBody (topS 23)) = true := by decide +kernel
theorem ck_L_draw : chkCs Tb I_L_draw.N (defScope (topS 24)) I_L_draw.body (defBody (topS 24)) = true := by decide +kernel
theorem ck_L_pick : chkCs Tb I_L_pick.N (defScope (topS 25)) I_L_pick.body (defBody (topS 25)) = true := by decide +kernel
theorem ck_L_same : chkCs Tb I_L_same.N (defScope (topS 26)) I_L_same.body (defBody (topS 26)) = true := by decide +kernel
theorem ck_L_names : chkCs Tb I_L_names.N (defScope (topS 27)) I_L_names.body (defBody (topS 27)) = true := by decide +kernel
theorem ck_L_book : chkCs Tb I_L_book.N (defScope (topS 28)) I_L_book.body (defBody (topS 28)) = true := by decide +kernel
theorem ck_L_row : chkCs Tb I_L_row.N (defScope (topS 29)) I_L_row.body (defBody (topS 29)) = true := by decide +kernel
theorem ck_L_chain : chkCs Tb I_L_chain.N (defScope (topS 30)) I_L_chain.body (defBody (topS 30)) = true := by decide +kernel
theorem ck_L_members : chkCs Tb I_L_members.N (defScope (topS 31)) I_L_members.body (defBody (topS 31)) = true := by decide +kernel
theorem ck_L_led : chkCs Tb I_L_led.N (defScope (topS 32)) I_L_led.body (defBody (topS 32)) = true := by decide +kernel
theorem ck_L_sequence : chkCs Tb I_L_sequence.N (defScope (topS 33)) I_L_sequence.body (defBody (topS 33)) = true := by decide +kernel
theorem ck_L_walked : chkCs Tb I_L_walked.N (defScope (topS 34)) I_L_walked.body (defBody (topS 34)) = true := by decide +kernel
theorem ck_L_last_told : chkCs Tb I_L_last_told.N (defScope (topS 35)) I_L_last_told.body (defBody (topS 35)) = true := by decide +kernel
theorem ck_L_less_told : chkCs Tb I_L_less_told.N (defScope (topS 36)) I_L_less_told.body (defBody (topS 36)) = true := by decide +kernel
theorem ck_L_passage_so : chkCs Tb I_L_passage_so.N (defScope (topS 37)) I_L_passage_so.body (defBody (topS 37)) = true := by decide +kernel
theorem ck_law : chkCs Tb I_law.N (defScope (topS 38)) I_law.body (defBody (topS 38)) = true := by decide +kernel
theorem sc_is_name : FnScope I_is_name.N I_is_name.ps (defScope (topS 12)) := ⟨rfl, rfl, rfl, by decide +kernel, rfl, by decide +kernel, by decide +kernel⟩
theorem sc_check_name : FnScope I_check_name.N I_check_name.ps (defScope (topS 13)) := ⟨rfl, rfl, rfl, by decide +kernel, rfl, by decide +kernel, by decide +kernel⟩
theorem sc_check_kinds : FnScope I_check_kinds.N I_check_kinds.ps (defScope (topS 18)) := ⟨rfl, rfl, rfl, by decide +kernel, rfl, by decide +kernel, by decide +kernel⟩
theorem sc_check_border : FnScope I_check_border.N I_check_border.ps (defScope (topS 19)) := ⟨rfl, rfl, rfl, by decide +kernel, rfl, by decide +kernel, by decide +kernel⟩
theorem sc_Kindbook___init__ : FnScope I_Kindbook___init__.N I_Kindbook___init__.ps (defScope (inClass (topS 16) 2)) := ⟨rfl, rfl, rfl, by decide +kernel, rfl, by decide +kernel, by decide +kernel⟩
theorem sc_Kindbook__check_record : FnScope I_Kindbook__check_record.N I_Kindbook__check_record.ps (defScope (inClass (topS 16) 3)) := ⟨rfl, rfl, rfl, by decide +kernel, rfl, by decide +kernel, by decide +kernel⟩
theorem sc_Kindbook_checked : FnScope I_Kindbook_checked.N I_Kindbook_checked.ps (defScope (inClass (topS 16) 6)) := ⟨rfl, rfl, rfl, by decide +kernel, rfl, by decide +kernel, by decide +kernel⟩
theorem sc_Kindbook_size_of : FnScope I_Kindbook_size_of.N I_Kindbook_size_of.ps (defScope (inClass (topS 16) 7)) := ⟨rfl, rfl, rfl, by decide +kernel, rfl, by decide +kernel, by decide +kernel⟩
theorem sc_Kindbook_parent_of : FnScope I_Kindbook_parent_of.N I_Kindbook_parent_of.ps (defScope (inClass (topS 16) 8)) := ⟨rfl, rfl, rfl, by decide +kernel, rfl, by decide +kernel, by decide +kernel⟩
theorem sc_Kindbook_leads_of : FnScope I_Kindbook_leads_of.N I_Kindbook_leads_of.ps (defScope (inClass (topS 16) 9)) := ⟨rfl, rfl, rfl, by decide +kernel, rfl, by decide +kernel, by decide +kernel⟩
theorem sc_Kindbook_chain_of : FnScope I_Kindbook_chain_of.N I_Kindbook_chain_of.ps (defScope (inClass (topS 16) 10)) := ⟨rfl, rfl, rfl, by decide +kernel, rfl, by decide +kernel, by decide +kernel⟩
theorem sc_Kindbook_members : FnScope I_Kindbook_members.N I_Kindbook_members.ps (defScope (inClass (topS 16) 11)) := ⟨rfl, rfl, rfl, by decide +kernel, rfl, by decide +kernel, by decide +kernel⟩
theorem sc_Kindbook_led : FnScope I_Kindbook_led.N I_Kindbook_led.ps (defScope (inClass (topS 16) 12)) := ⟨rfl, rfl, rfl, by decide +kernel, rfl, by decide +kernel, by decide +kernel⟩
theorem sc_Kindbook_below : FnScope I_Kindbook_below.N I_Kindbook_below.ps (defScope (inClass (topS 16) 13)) := ⟨rfl, rfl, rfl, by decide +kernel, rfl, by decide +kernel, by decide +kernel⟩
theorem sc_Passage___init__ : FnScope I_Passage___init__.N I_Passage___init__.ps (defScope (inClass (topS 21) 0)) := ⟨rfl, rfl, rfl, by decide +kernel, rfl, by decide +kernel, by decide +kernel⟩
theorem sc_Passage_of : FnScope I_Passage_of.N I_Passage_of.ps (defScope (inClass (topS 21) 1)) := ⟨rfl, rfl, rfl, by decide +kernel, rfl, by decide +kernel, by decide +kernel⟩
theorem sc_Passage_then : FnScope I_Passage_then.N I_Passage_then.ps (defScope (inClass (topS 21) 2)) := ⟨rfl, rfl, rfl, by decide +kernel, rfl, by decide +kernel, by decide +kernel⟩
theorem sc_Passage__joined_parts : FnScope I_Passage__joined_parts.N I_Passage__joined_parts.ps (defScope (inClass (topS 21) 3)) := ⟨rfl, rfl, rfl, by decide +kernel, rfl, by decide +kernel, by decide +kernel⟩
theorem sc_Passage__stage_behind : FnScope I_Passage__stage_behind.N I_Passage__stage_behind.ps (defScope (inClass (topS 21) 4)) := ⟨rfl, rfl, rfl, by decide +kernel, rfl, by decide +kernel, by decide +kernel⟩
theorem sc_Passage_stage : FnScope I_Passage_stage.N I_Passage_stage.ps (defScope (inClass (topS 21) 6)) := ⟨rfl, rfl, rfl, by decide +kernel, rfl, by decide +kernel, by decide +kernel⟩
theorem sc_Passage_lead : FnScope I_Passage_lead.N I_Passage_lead.ps (defScope (inClass (topS 21) 7)) := ⟨rfl, rfl, rfl, by decide +kernel, rfl, by decide +kernel, by decide +kernel⟩
theorem sc_Passage_passing : FnScope I_Passage_passing.N I_Passage_passing.ps (defScope (inClass (topS 21) 8)) := ⟨rfl, rfl, rfl, by decide +kernel, rfl, by decide +kernel, by decide +kernel⟩
theorem sc_L_draws : FnScope I_L_draws.N I_L_draws.ps (defScope (topS 23)) := ⟨rfl, rfl, rfl, by decide +kernel, rfl, by decide +kernel, by decide +kernel⟩
theorem sc_L_draw : FnScope I_L_draw.N I_L_draw.ps (defScope (topS 24)) := ⟨rfl, rfl, rfl, by decide +kernel, rfl, by decide +kernel, by decide +kernel⟩
theorem sc_L_pick : FnScope I_L_pick.N I_L_pick.ps (defScope (topS 25)) := ⟨rfl, rfl, rfl, by decide +kernel, rfl, by decide +kernel, by decide +kernel⟩
theorem sc_L_same : FnScope I_L_same.N I_L_same.ps (defScope (topS 26)) := ⟨rfl, rfl, rfl, by decide +kernel, rfl, by decide +kernel, by decide +kernel⟩
theorem sc_L_names : FnScope I_L_names.N I_L_names.ps (defScope (topS 27)) := ⟨rfl, rfl, rfl, by decide +kernel, rfl, by decide +kernel, by decide +kernel⟩
theorem sc_L_book : FnScope I_L_book.N I_L_book.ps (defScope (topS 28)) := ⟨rfl, rfl, rfl, by decide +kernel, rfl, by decide +kernel, by decide +kernel⟩
theorem sc_L_row : FnScope I_L_row.N I_L_row.ps (defScope (topS 29)) := ⟨rfl, rfl, rfl, by decide +kernel, rfl, by decide +kernel, by decide +kernel⟩
theorem sc_L_chain : FnScope I_L_chain.N I_L_chain.ps (defScope (topS 30)) := ⟨rfl, rfl, rfl, by decide +kernel, rfl, by decide +kernel, by decide +kernel⟩
theorem sc_L_members : FnScope I_L_members.N I_L_members.ps (defScope (topS 31)) := ⟨rfl, rfl, rfl, by decide +kernel, rfl, by decide +kernel, by decide +kernel⟩
theorem sc_L_led : FnScope I_L_led.N I_L_led.ps (defScope (topS 32)) := ⟨rfl, rfl, rfl, by decide +kernel, rfl, by decide +kernel, by decide +kernel⟩
theorem sc_L_sequence : FnScope I_L_sequence.N I_L_sequence.ps (defScope (topS 33)) := ⟨rfl, rfl, rfl, by decide +kernel, rfl, by decide +kernel, by decide +kernel⟩
theorem sc_L_walked : FnScope I_L_walked.N I_L_walked.ps (defScope (topS 34)) := ⟨rfl, rfl, rfl, by decide +kernel, rfl, by decide +kernel, by decide +kernel⟩
theorem sc_L_last_told : FnScope I_L_last_told.N I_L_last_told.ps (defScope (topS 35)) := ⟨rfl, rfl, rfl, by decide +kernel, rfl, by decide +kernel, by decide +kernel⟩
theorem sc_L_less_told : FnScope I_L_less_told.N I_L_less_told.ps (defScope (topS 36)) := ⟨rfl, rfl, rfl, by decide +kernel, rfl, by decide +kernel, by decide +kernel⟩
theorem sc_L_passage_so : FnScope I_L_passage_so.N I_L_passage_so.ps (defScope (topS 37)) := ⟨rfl, rfl, rfl, by decide +kernel, rfl, by decide +kernel, by decide +kernel⟩
theorem sc_law : FnScope I_law.N I_law.ps (defScope (topS 38)) := ⟨rfl, rfl, rfl, by decide +kernel, rfl, by decide +kernel, by decide +kernel⟩
theorem call_is_name (n : Nat) (as : List Arg) : Pr.call (n + 1) F.is_name as = runF (Pr.env n) I_is_name as := rfl
theorem call_check_name (n : Nat) (as : List Arg) : Pr.call (n + 1) F.check_name as = runF (Pr.env n) I_check_name as := rfl
theorem call_check_kinds (n : Nat) (as : List Arg) : Pr.call (n + 1) F.check_kinds as = runF (Pr.env n) I_check_kinds as := rfl
theorem call_check_border (n : Nat) (as : List Arg) : Pr.call (n + 1) F.check_border as = runF (Pr.env n) I_check_border as := rfl
theorem call_Kindbook___init__ (n : Nat) (as : List Arg) : Pr.call (n + 1) F.Kindbook___init__ as = runF (Pr.env n) I_Kindbook___init__ as := rfl
theorem call_Kindbook__check_record (n : Nat) (as : List Arg) : Pr.call (n + 1) F.Kindbook__check_record as = runF (Pr.env n) I_Kindbook__check_record as := rfl
theorem call_Kindbook_checked (n : Nat) (as : List Arg) : Pr.call (n + 1) F.Kindbook_checked as = runF (Pr.env n) I_Kindbook_checked as := rfl
theorem call_Kindbook_size_of (n : Nat) (as : List Arg) : Pr.call (n + 1) F.Kindbook_size_of as = runF (Pr.env n) I_Kindbook_size_of as := rfl
theorem call_Kindbook_parent_of (n : Nat) (as : List Arg) : Pr.call (n + 1) F.Kindbook_parent_of as = runF (Pr.env n) I_Kindbook_parent_of as := rfl
theorem call_Kindbook_leads_of (n : Nat) (as : List Arg) : Pr.call (n + 1) F.Kindbook_leads_of as = runF (Pr.env n) I_Kindbook_leads_of as := rfl
theorem call_Kindbook_chain_of (n : Nat) (as : List Arg) : Pr.call (n + 1) F.Kindbook_chain_of as = runF (Pr.env n) I_Kindbook_chain_of as := rfl
theorem call_Kindbook_members (n : Nat) (as : List Arg) : Pr.call (n + 1) F.Kindbook_members as = runF (Pr.env n) I_Kindbook_members as := rfl
theorem call_Kindbook_led (n : Nat) (as : List Arg) : Pr.call (n + 1) F.Kindbook_led as = runF (Pr.env n) I_Kindbook_led as := rfl
theorem call_Kindbook_below (n : Nat) (as : List Arg) : Pr.call (n + 1) F.Kindbook_below as = runF (Pr.env n) I_Kindbook_below as := rfl
theorem call_Passage___init__ (n : Nat) (as : List Arg) : Pr.call (n + 1) F.Passage___init__ as = runF (Pr.env n) I_Passage___init__ as := rfl
theorem call_Passage_of (n : Nat) (as : List Arg) : Pr.call (n + 1) F.Passage_of as = runF (Pr.env n) I_Passage_of as := rfl
theorem call_Passage_then (n : Nat) (as : List Arg) : Pr.call (n + 1) F.Passage_then as = runF (Pr.env n) I_Passage_then as := rfl
theorem call_Passage__joined_parts (n : Nat) (as : List Arg) : Pr.call (n + 1) F.Passage__joined_parts as = runF (Pr.env n) I_Passage__joined_parts as := rfl
theorem call_Passage__stage_behind (n : Nat) (as : List Arg) : Pr.call (n + 1) F.Passage__stage_behind as = runF (Pr.env n) I_Passage__stage_behind as := rfl
theorem call_Passage_stage (n : Nat) (as : List Arg) : Pr.call (n + 1) F.Passage_stage as = runF (Pr.env n) I_Passage_stage as := rfl
theorem call_Passage_lead (n : Nat) (as : List Arg) : Pr.call (n + 1) F.Passage_lead as = runF (Pr.env n) I_Passage_lead as := rfl
theorem call_Passage_passing (n : Nat) (as : List Arg) : Pr.call (n + 1) F.Passage_passing as = runF (Pr.env n) I_Passage_passing as := rfl
theorem call_L_draws (n : Nat) (as : List Arg) : Pr.call (n + 1) F.L_draws as = runF (Pr.env n) I_L_draws as := rfl
theorem call_L_draw (n : Nat) (as : List Arg) : Pr.call (n + 1) F.L_draw as = runF (Pr.env n) I_L_draw as := rfl
theorem call_L_pick (n : Nat) (as : List Arg) : Pr.call (n + 1) F.L_pick as = runF (Pr.env n) I_L_pick as := rfl
theorem call_L_same (n : Nat) (as : List Arg) : Pr.call (n + 1) F.L_same as = runF (Pr.env n) I_L_same as := rfl
theorem call_L_names (n : Nat) (as : List Arg) : Pr.call (n + 1) F.L_names as = runF (Pr.env n) I_L_names as := rfl
theorem call_L_book (n : Nat) (as : List Arg) : Pr.call (n + 1) F.L_book as = runF (Pr.env n) I_L_book as := rfl
theorem call_L_row (n : Nat) (as : List Arg) : Pr.call (n + 1) F.L_row as = runF (Pr.env n) I_L_row as := rfl
theorem call_L_chain (n : Nat) (as : List Arg) : Pr.call (n + 1) F.L_chain as = runF (Pr.env n) I_L_chain as := rfl
theorem call_L_members (n : Nat) (as : List Arg) : Pr.call (n + 1) F.L_members as = runF (Pr.env n) I_L_members as := rfl
theorem call_L_led (n : Nat) (as : List Arg) : Pr.call (n + 1) F.L_led as = runF (Pr.env n) I_L_led as := rfl
theorem call_L_sequence (n : Nat) (as : List Arg) : Pr.call (n + 1) F.L_sequence as = runF (Pr.env n) I_L_sequence as := rfl
theorem call_L_walked (n : Nat) (as : List Arg) : Pr.call (n + 1) F.L_walked as = runF (Pr.env n) I_L_walked as := rfl
theorem call_L_last_told (n : Nat) (as : List Arg) : Pr.call (n + 1) F.L_last_told as = runF (Pr.env n) I_L_last_told as := rfl
theorem call_L_less_told (n : Nat) (as : List Arg) : Pr.call (n + 1) F.L_less_told as = runF (Pr.env n) I_L_less_told as := rfl
theorem call_L_passage_so (n : Nat) (as : List Arg) : Pr.call (n + 1) F.L_passage_so as = runF (Pr.env n) I_L_passage_so as := rfl
theorem call_law (n : Nat) (as : List Arg) : Pr.call (n + 1) F.law as = runF (Pr.env n) I_law as := rfl
namespace KBP
open PySem PySem.Spec PyProof.Rows L2 My KB
abbrev st : Stmt := inClass (topS 16) 2
abbrev N : List Str := ["self", "rows", "name", "size", "parent", "leads", "row"]
def ifC : Stmt → Expr
  | .If c _ _ _ => c | .Expr c _ => c | .Assign _ c _ => c | _ => .Constant .none 0 ⟨0, 0, 0, 0⟩
def forB : Stmt → List Stmt
  | .For _ _ b _ _ => b | _ => []
def atN (l : List Stmt) (i : Nat) : Stmt := l.getD i (.Pass ⟨0, 0, 0, 0⟩)
abbrev t0 : Den.T := .not (.x (.var 1))
abbrev t1 : Den.T := .cmp .gt (.op .len (.cons (.var 1) .nil)) (.con [8] "MOST" (.int 5) (.var 0))
abbrev xC : Den.X := .meth "_check_record" [(8, F.Kindbook__check_record)] [false, false, false, false, false] (.var 0) (.cons (.var 2) (.cons (.var 3) (.cons (.var 4) (.cons (.var 5) .nil))))
abbrev xT : Den.X := .tup (.cons (.var 3) (.cons (.var 4) (.cons (.op .tuple (.cons (.var 5) .nil)) .nil)))
abbrev xN : Den.X := .op .tuple (.cons (.comp [("row", 6)] (.nm 6) (.seq (.var 1)) .tru (.op .ix (.cons (.var 6) (.cons (.int 0) .nil)))) .nil)
theorem ck0 : chkT Tb N (defScope st) t0 (ifC (atN (defBody st) 0)) = true := by decide +kernel
theorem ck1 : chkT Tb N (defScope st) t1 (ifC (atN (defBody st) 1)) = true := by decide +kernel
theorem ckC : chkX Tb N (defScope st) xC (ifC (atN (forB (atN (defBody st) 3)) 0)) = true := by decide +kernel
theorem ckT : chkX Tb N (defScope st) xT (ifC (atN (forB (atN (defBody st) 3)) 1)) = true := by decide +kernel
theorem ckN : chkX Tb N (defScope st) xN (ifC (atN (defBody st) 4)) = true := by decide +kernel
theorem sc : FnScope N ["self", "rows"] (defScope st) := ⟨rfl, rfl, rfl, by decide +kernel, rfl, by decide +kernel, by decide +kernel⟩
section
variable {E : Den.Env}
theorem ev0 (d : D) (rows : List D) (s : S) (h : s = ⟨[some (.shr d), some (.shr (.lst rows)), none, none, none, none, none], []⟩) : evT E t0 s = .ok rows.isEmpty s := by
  subst h
  cases rows <;> simp
theorem ev1 (rows : List D) (s : S) (h : s = ⟨[some (.shr (.obj 8 [] [])), some (.shr (.lst rows)), none, none, none, none, none], []⟩) : evT E t1 s = .ok (decide (5 < (rows.length : Int))) s := by
  subst h
  simp
theorem evC {b : D} {x : Str} {sz pa ld : D} (s : S) (h : s = ⟨[some (.shr (.obj 8 [told] [b])), none, some (.shr (.str x)), some (.shr sz), some (.shr pa), some (.shr ld), none], []⟩) :
    (∀ v, E.cl F.Kindbook__check_record [.val (.obj 8 [told] [b]), .val (.str x), .val sz, .val pa, .val ld] = .ret v [] → evX E xC s = .ok v s) ∧ (∀ c, E.cl F.Kindbook__check_record [.val (.obj 8 [told] [b]), .val (.str x), .val sz, .val pa, .val ld] = .ex c [] [] → evX E xC s = .ex c [] s) := by
  have e : ¬ ("_check_record" : Str) = told := by decide
  subst h
  constructor
  · intro v hv
    simp [hv, e, valPs, borPs, atsOf]
  · intro c hc
    simp [hc, e, valPs, borPs, atsOf]
theorem evTup {sz pa ld : D} {ls : List D} (hl : seqT ld = some ls) (s : S) (h : s = ⟨[none, none, none, some (.shr sz), some (.shr pa), some (.shr ld), none], []⟩) : evX E xT s = .ok (.shr (.tup [sz, pa, .tup ls])) s := by
  subst h
  cases ld <;> first | (cases hl; done) | skip
  all_goals (cases hl; simp [lim])
theorem comp_id {step : S → D → Out (Option D)} {ok : S → Bool} {s : S} {g : D → D} {rows : List D} (h1 : ok s = true) (h2 : ∀ d ∈ rows, step s d = .ok (some (g d)) s) (h3 : rows.length ≤ lim) : compRun step ok rows [] s = .ok (rows.map g) s := by
  have h : compRun step ok (rows.map fun d => d) [] s = compRun step ok rows [] s := by rw [List.map_id']
  exact comp_map h g h1 h2 h3
theorem evN {rows : List D} (hr : ∀ d ∈ rows, ∃ e t, d = .tup (e :: t)) (hl : rows.length ≤ 5) (s : S) (h : s = ⟨[none, some (.shr (.lst rows)), none, none, none, none, none], []⟩) : evX E xN s = .ok (.shr (.tup (rows.map fst1))) s := by
  subst h
  simp
  rw [comp_id (g := fst1) (by simp [looksB_k]) (fun d hd => by
    obtain ⟨e, t, rfl⟩ := hr d hd
    have e0 : ixI (e :: t) 0 = some e := by have := ixI_nat (e :: t) 0; simpa using this
    simp [step_k, fst1, e0]) (by unfold lim; omega)]
  simp [lim]
theorem isB (b : Bool) {P Q : Prop} (h : if b = true then P else Q) : if b = true then P else Q := h
theorem book_prim {K : PySem.W.Frag} {mg : Str → Option Value} {CA : Nat → Option Addr} {I : FI} (hps : I.ps = [("self" : Str), ("rows" : Str)]) (fn : FnAt K mg CA I st) : PrimOk K mg CA Tb I (bookG 5 4 F.Kindbook__check_record 8) := by
  intro P w base Pr n ex ih
  refine fn.okX (N := N) (k := 2 * n + 1) (hps ▸ sc) (fun vs H Q E ⟨B, as, rs, _, _, ao, en⟩ => ?_) fun q f cdv A outer s H vs Q E hr ⟨B, as, rs, bh, nd, ao, en0⟩ => ?_
  · obtain ⟨rows, rfl, _⟩ := bookG_inv en
    obtain ⟨r, v, rfl, _⟩ := args_two ao
    rw [hps]; rfl
  · obtain ⟨CI, hCI, ecI⟩ := ex.cls 5 _ rfl
    obtain ⟨CM, hCM, ecM⟩ := ex.cls 4 _ rfl
    obtain ⟨Cc, hCc, ck⟩ := ih.cls 8 _ rfl
    have nd' := sc.nd
    have ctx : CtxS (cxOf (L2.CX P w) P w K mg base N q (defScope st) f cdv A outer s H E) Tb N (defScope st) n (Pr.env n) CA (fun cls d _ H => E cls d H) :=
        { c := { hN := rfl, nd := nd', hsc := rfl, calm := rfl, tk := takes_of rfl rfl rfl rfl, room := hr, hfn := fun _ => rfl, tab := ih }, kind := sc.kind, hs := rfl, hf := rfl, po := passes_of rfl, ex := ex }
    refine ⟨_, pss_cons (ps_if (sT t0 ctx.c _ ck0).1 (pss_one (ps_raise rfl (takes_of rfl rfl rfl rfl) (pmk_own PySem.F.excBase_ValueError ecI.ex ecI.g ecI.kp (raises_own ecI.sb ecI.ty) (by rfl) (by rfl)))) pss_nil)
      (pss_cons (ps_if (sT t1 ctx.c _ ck1).1 (pss_one (ps_raise rfl (takes_of rfl rfl rfl rfl) (pmk_own PySem.F.excBase_ValueError ecM.ex ecM.g ecM.kp (raises_own ecM.sb ecM.ty) (by rfl) (by rfl)))) pss_nil)
      (pss_cons (ps_fld (pv 0) pe_dnewK rfl)
      (pss_cons (ps_for (passes_of rfl) rfl (pi_list (pv 1)) (pg_tup rfl (pgs_cons (pg_name (i := 2) nd' rfl (Or.inl rfl)) (pgs_cons (pg_name (i := 3) nd' rfl (Or.inl rfl)) (pgs_cons (pg_name (i := 4) nd' rfl (Or.inl rfl)) (pgs_cons (pg_name (i := 5) nd' rfl (Or.inl rfl)) pgs_nil)))))
        (pss_cons (ps_expr (sX xC ctx.c _ ckC)) (pss_one (ps_dput (hu_of hr) (pe_fld (pv 0) rfl) (pv 2) (sX xT ctx.c _ ckT) rfl))))
      (pss_one (ps_fld (pv 0) (sX xN ctx.c _ ckN) rfl))))), ?_⟩
    obtain ⟨rows, rfl, en⟩ := bookG_inv en0
    clear en0
    obtain ⟨r, rvv, rfl, rfl, one, rB, rrows⟩ := args_two ao
    obtain ⟨Cc', dx, hC', hr0⟩ := one_empty one
    rw [hCc] at hC'
    cases hC'
    obtain ⟨p0, rv, rfl, hp0, rrv⟩ : ∃ p0 rv, rvv = V.ref p0 ∧ B p0 = some (.lst rv) ∧ Reps K CA B rv rows := by
      cases rrows with
      | lst h r => exact ⟨_, _, rfl, h, r⟩
    have x1 : Ex B (upd B r (.ins Cc dx [])) := Evl.Ex.new rB
    have x2 : Ex (upd B r (.ins Cc dx [])) H := Ex.upd_both bh hr0
    have rself : Rep K CA (upd B r (.ins Cc dx [])) (.ref r) (.obj 8 [] []) := .obj (fs := []) hCc upd_same .nil
    have err : ∀ (c : Nat) (Cx : Addr) (H' : Hp), CA c = some Cx → Ex H H' → EndF K CA B H [r] Q E (.ex c [] [.obj 8 [] []]) → E (.ref Cx) none H' := fun c Cx H' hc x en =>
      en (.ref Cx) none B H' ⟨Evl.Ex.refl B, fun a o h => x _ _ (bh _ _ h), fun a o _ h => x _ _ h, fun a h => .inl h, rfl, fun k p d e1 e2 => by
        cases k with
        | succ k => cases e1
        | zero => cases e1; cases e2; exact ⟨.obj (fs := []) hCc (x _ _ hr0) .nil, rB⟩⟩ (.non hc rfl)
    have sl0 : Slots K CA (upd B r (.ins Cc dx [])) (L2.start N [.ref r, .ref p0]) [some (.shr (.obj 8 [] [])), some (.shr (.lst rows)), none, none, none, none, none] := .shr rself (.shr (rrows.mono x1) (.hid (.hid (.hid (.hid (.hid .nil))))))
    have keepX : ∀ {Ha Hb G0 G' : Hp} {σ : L2.St} {s : S}, RS ⟨K, CA, Ha, G0, []⟩ G' Hb σ s → Ex Ha Hb := fun R a o h => R.keep a o (by intro z; cases z) h
    refine ⟨⟨K, CA, H, _, []⟩, _, _, rfl, rfl, sl0.rs x2, ?_⟩
    rw [ev0 _ rows _ rfl]
    intro G1 H1 y1 R1
    have k1 := keepX R1
    by_cases hrows : rows = []
    · rw [if_pos hrows] at en
      have : rows.isEmpty = true := by rw [hrows]; rfl
      rw [this]
      exact err _ _ _ hCI k1 en
    rw [if_neg hrows] at en
    have hre : rows.isEmpty = false := by
      cases rows with
      | nil => exact absurd rfl hrows
      | cons _ _ => rfl
    rw [hre]
    show denT K CA _ (evT (Pr.env n) t1) _ H1 _
    refine ⟨⟨K, CA, H1, _, []⟩, _, _, rfl, rfl, sl0.rs (x2.trans k1), ?_⟩
    rw [ev1 rows _ rfl]
    intro G2 H2 y2 R2
    have k2 : Ex H H2 := k1.trans (keepX R2)
    by_cases h5 : 5 < rows.length
    · rw [if_pos h5] at en
      rw [decide_eq_true (by omega : (5 : Int) < rows.length)]
      exact err _ _ _ hCM k2 en
    rw [if_neg h5] at en
    rw [decide_eq_false (by omega : ¬ (5 : Int) < rows.length)]
    refine fun d1 hd1 => ⟨.ref r, rfl, r, Cc, dx, [], rfl, upd_keep (k2 _ _ hr0) hd1, ck.cl, ck.fl told rfl, by simp, ?_⟩
    have I0 : KInv K CA B H r Cc dx d1 B (upd (upd H2 d1 (.dK [])) r (.ins Cc dx [(told, .ref d1)])) [] [] [] := kinv_start bh rB hr0 k2 hd1
    refine ⟨.ref p0, rfl, p0, rfl, ⟨rv, SqL.of (I0.gh _ _ (I0.bg _ _ hp0))⟩, ?_⟩
    refine My.forL (xs := rv) (fun pre σ H' => ∃ G kvs ks vs post drows s2 s3 s4 s5, rv = pre ++ post ∧ Reps K CA B post drows ∧ KInv K CA B H r Cc dx d1 G H' kvs ks vs ∧ EndF K CA B H [r] Q E (_root_.KB.rowsGo (Pr.call n) 8 F.Kindbook__check_record rows drows ks vs) ∧ (∀ d ∈ rows, d ∈ drows ∨ ∃ e t, d = .tup (e :: t)) ∧ σ = [some (.ref r), some (.ref p0), s2, s3, s4, s5, none])
      ⟨B, [], [], [], rv, rows, none, none, none, none, rfl, rrv, I0, en, fun d hd => .inl hd, rfl⟩ (fun pre σ H' ⟨G, kvs, ks, vs, post, drows, s2, s3, s4, s5, e1, rr, I, en, hd, eσ⟩ => SqL.of (I.gh _ _ (I.bg _ _ hp0))) ?_ ?_
    · rintro pre x post' σ H' hx ⟨G, kvs, ks, vs, post, drows, s2, s3, s4, s5, e1, rr, I, en, hd, rfl⟩
      have : post = x :: post' := List.append_cancel_left (e1.symm.trans hx)
      subst this
      cases rr with
      | cons rx rpost =>
      rename_i d drest
      unfold _root_.KB.rowsGo at en
      split at en
      · rename_i heq; cases heq
      · rename_i all rows' ks' vs' nm sz pa ld rs' heq
        cases heq
        split at en
        · rename_i ls hls
          cases rx with
          | tup hT rT =>
          rename_i b xs
          cases rT with
          | cons r1 rT =>
          cases rT with
          | cons r2 rT =>
          cases rT with
          | cons r3 rT =>
          cases rT with
          | cons r4 rT =>
          cases rT
          have q1 := r1.str'
          subst q1
          have hT' : SqT K H' b _ := Evl.ex_t (fun a o h => I.gh a o (I.bg a o h)) hT
          refine ⟨b, _, rfl, hT', rfl, _, _, rfl, _, _, rfl, _, _, rfl, _, _, rfl, rfl, ?_⟩
          obtain ⟨G1, z1, z2, rs1⟩ := kinv_both hCc I
          have bg1 := I.bg.trans z1
          have sl : Slots K CA G1 [some (.ref r), some (.ref p0), some (.str nm), some _, some _, some _, none] [some (.shr (.obj 8 [told] [.dic _ _])), none, some (.shr (.str nm)), some (.shr sz), some (.shr pa), some (.shr ld), none] := .shr rs1 (.hid (.shr (.str nm) (.shr (r2.mono bg1) (.shr (r3.mono bg1) (.shr (r4.mono bg1) (.hid .nil))))))
          refine ⟨⟨K, CA, H', G1, []⟩, G1, _, rfl, rfl, sl.rs z2, ?_⟩
          split at en
          · rename_i v hcall
            split at en
            · rename_i hb
              rw [(evC (E := Pr.env n) (b := .dic _ _) (x := nm) (sz := sz) (pa := pa) (ld := ld) _ rfl).1 v hcall]
              intro v1 G2 H2 y2 R2 _
              have I2 := kinv_more I (keepX R2)
              have sl2 : Slots K CA G [some (.ref r), some (.ref p0), some (.str nm), some _, some _, some _, none] [none, none, none, some (.shr sz), some (.shr pa), some (.shr ld), none] := .hid (.hid (.hid (.shr (r2.mono I.bg) (.shr (r3.mono I.bg) (.shr (r4.mono I.bg) (.hid .nil))))))
              refine ⟨⟨K, CA, H2, G, []⟩, G, _, rfl, rfl, sl2.rs I2.gh, ?_⟩
              rw [evTup hls _ rfl]
              intro v2 G3 H3 y3 R3 res
              have I3 := kinv_grow I2 y3 (keepX R3) R3.gh (fun a h => R3.fresh a h)
              have ln : kvs.length < 1000 := by
                have := congrArg List.length I.ek
                rw [List.length_map] at this
                omega
              refine ⟨.ref r, rfl, r, Cc, dx, _, .ref d1, rfl, I3.hr, ck.cl, ck.fl told rfl, rfl, .str nm, rfl, d1, _, rfl, DPut.k (k := .inr nm) I3.hk (by rw [sizeLine_eq]; omega), ?_⟩
              refine ⟨G3, _, _, _, post', drest, _, _, _, _, by rw [hx]; simp, rpost, kinv_put I3 (k := .inr nm) res.1 hb.1, en, fun d hd' => ?_, rfl⟩
              rcases hd d hd' with h | h
              · rcases List.mem_cons.mp h with h | h
                · subst h; exact .inr ⟨_, _, rfl⟩
                · exact .inl h
              · exact .inr h
            · exact en.elim
          · rename_i c hcall
            rw [(evC (E := Pr.env n) (b := .dic _ _) (x := nm) (sz := sz) (pa := pa) (ld := ld) _ rfl).2 c hcall]
            intro G2 H2 cls d y2 R2 ke
            have I2 := kinv_more I (keepX R2)
            cases ke with
            | non hc _ => exact en _ _ _ _ (kinv_err hCc I2) (.non hc rfl)
            | dict _ _ _ _ z => exact absurd rfl z
          · exact en.elim
        · exact en.elim
      · exact en.elim
    · rintro σ H' ⟨G, kvs, ks, vs, post, drows, s2, s3, s4, s5, e1, rr, I, en, hd, rfl⟩
      have : post = [] := by simpa using e1
      subst this
      cases rr
      have en : EndF K CA B H [r] Q E (.ret (.shr .non) [.obj 8 [told, namesF] [.dic ks vs, .tup (rows.map fst1)]]) := en
      have sl : Slots K CA G [some (.ref r), some (.ref p0), s2, s3, s4, s5, none] [none, some (.shr (.lst rows)), none, none, none, none, none] := .hid (.shr (rrows.mono I.bg) (.hid (.hid (.hid (.hid (.hid .nil))))))
      refine ⟨⟨K, CA, H', G, []⟩, G, _, rfl, rfl, sl.rs I.gh, ?_⟩
      rw [evN (fun d h => (hd d h).resolve_left (by intro z; cases z)) (by omega) _ rfl]
      intro v G3 H3 y3 R3 res
      have I3 := kinv_grow I y3 (keepX R3) R3.gh (fun a h => R3.fresh a h)
      refine ⟨.ref r, rfl, r, Cc, dx, _, rfl, I3.hr, ck.cl, ck.fl namesF rfl, by simp, ?_⟩
      exact en .non _ _ (kinv_end hCc I3 res.1) .non
end
end KBP

end Den
set_option Elab.async false
set_option linter.all false
set_option maxRecDepth 100000
set_option autoImplicit false
set_option maxHeartbeats 1000000
namespace Den
open PySem L2
@[simp] theorem env_cl (n : Nat) : (Pr.env n).cl = Pr.call n := rfl
@[simp] theorem env_sub (n : Nat) : (Pr.env n).sub = subT := rfl
@[simp] theorem env_wf (n : Nat) : (Pr.env n).wf = 100000 := rfl
/-- the last number, the rest -/
def drawV (ds : List Int) (m : Int) : Int := (ds.getLast?.getD 0) % m
theorem drawV_b (ds : List Int) {m : Int} (h : 0 < m) : 0 ≤ drawV ds m ∧ drawV ds m < m := ⟨Int.emod_nonneg _ (by omega), Int.emod_lt_of_pos _ h⟩
theorem draw_ok (n : Nat) (ds : List Int) (m : Int) (hm : 0 < m) : Pr.call (n+1) F.L_draw [.bor (.lst (ds.map .int)), .val (.int m)] = .ret (.shr (.int (drawV ds m))) [.lst (ds.dropLast.map .int)] := by
  rw [call_L_draw]
  rcases List.eq_nil_or_concat ds with rfl | ⟨l, a, rfl⟩
  · simp [runF, I_L_draw, drawV]
  · have : ¬ ((l.length : Int) + 1 = 0) := by omega
    simp [runF, I_L_draw, drawV, this, hm]
def ow (ds : List Int) : Option SV := some (.own (.lst (ds.map .int)))
theorem draws_ok (n : Nat) (ns : List Int) (hn : ns.length ≤ 63) : ∃ ds : List Int, Pr.call (n+1) F.L_draws [.val (.frl (ns.map .int))] = .ret (.own (.lst (ds.map .int))) [] := by
  rw [call_L_draws]
  simp [runF, I_L_draws]
  generalize h : forRun _ _ _ _ _ = o
  have := for_thru h (fun pre s => ∃ (ds : List Int) (a b c : Option SV), s = ⟨[some (.shr (.frl (ns.map .int))), ow ds, a, b, c], []⟩ ∧ ds.length ≤ 60 * pre.length)
    ⟨[], none, none, none, rfl, Nat.le_refl _⟩ (fun pre s ⟨ds, a, b, c, h, _⟩ => by simp [looksB_k, h]) (fun pre x post s hx ⟨ds, a, b, c, h, hl⟩ => ?_)
  · obtain ⟨s', rfl, ds, a, b, c, rfl, hl⟩ := this
    refine ⟨ds.reverse, ?_⟩
    simp [ow]
  · subst h
    have hp : pre.length < 63 := by have := congrArg List.length hx; simp at this; omega
    have hlim : ds.length < lim := by unfold lim; omega
    simp [fstep_k, ow]
    by_cases h1 : 0 ≤ x ∧ x < 1000
    · simp [h1.1, h1.2, hlim]
      exact ⟨ds ++ [x], by simp, by simp; omega⟩
    · have e1 : (if 0 ≤ x then (if x < 1000 then True else False) else False) = False := by
        by_cases q : 0 ≤ x <;> simp [q] <;> omega
      by_cases h3 : 1000000000000000000 ≤ x
      · have h0 : 0 ≤ x := by omega
        have h2 : ¬ x < 1000 := by omega
        simp [h0, h2, h3]
        generalize h4 : forRun _ _ _ _ _ = o4
        have := for_thru h4 (fun pre' s => ∃ (ds' : List Int) (y : Int) (e : Option SV), s = ⟨[some (.shr (.frl (ns.map .int))), ow ds', some (.shr (.int x)), some (.shr (.int y)), e], []⟩ ∧ ds'.length ≤ ds.length + pre'.length)
          ⟨ds, x, none, rfl, Nat.le_refl _⟩ (fun pre s ⟨ds, a, b, h, _⟩ => by simp [looksB_k]) (fun pre' k post s hx ⟨ds', y, e, h, hl'⟩ => ?_)
        · obtain ⟨s', rfl, ds', y, e, rfl, hl'⟩ := this
          simp [ow] at hl' ⊢
          exact ⟨ds', rfl, by omega⟩
        · subst h
          have hp' : pre'.length < 60 := by have := congrArg List.length hx; simp at this; omega
          have hlim' : ds'.length < lim := by unfold lim; omega
          simp [fstep_k, ow]
          by_cases h5 : 0 < y
          · simp [h5, hlim']
            exact ⟨ds' ++ [y % 1000], by simp, by simp; omega⟩
          · simp [h5]
            exact ⟨ds', rfl, by omega⟩
      · by_cases h0 : 0 ≤ x
        · have h2 : ¬ x < 1000 := fun z => h1 ⟨h0, z⟩
          simp [h0, h2, h3]
          generalize h4 : forRun _ _ _ _ _ = o4
          have := for_thru h4 (fun pre' s => ∃ (ds' : List Int) (y : Int) (e : Option SV), s = ⟨[some (.shr (.frl (ns.map .int))), ow ds', some (.shr (.int x)), some (.shr (.int y)), e], []⟩ ∧ ds'.length ≤ ds.length + pre'.length)
            ⟨ds, _, none, rfl, Nat.le_refl _⟩ (fun pre s ⟨ds, a, b, h, _⟩ => by simp [looksB_k]) (fun pre' k post s hx ⟨ds', y, e, h, hl'⟩ => ?_)
          · obtain ⟨s', rfl, ds', y, e, rfl, hl'⟩ := this
            simp [ow] at hl' ⊢
            exact ⟨ds', rfl, by omega⟩
          · subst h
            have hp' : pre'.length < 4 := by have := congrArg List.length hx; simp at this; omega
            have hlim' : ds'.length < lim := by unfold lim; omega
            simp [fstep_k, ow, hlim']
            exact ⟨ds' ++ [y * 69621 % 2147483629 / 7 % 1000], by simp, by simp; omega⟩
        · simp [h0]
          have h6 : ¬ 1000000000000000000 ≤ x := by omega
          simp [h6]
          generalize h4 : forRun _ _ _ _ _ = o4
          have := for_thru h4 (fun pre' s => ∃ (ds' : List Int) (y : Int) (e : Option SV), s = ⟨[some (.shr (.frl (ns.map .int))), ow ds', some (.shr (.int x)), some (.shr (.int y)), e], []⟩ ∧ ds'.length ≤ ds.length + pre'.length)
            ⟨ds, _, none, rfl, Nat.le_refl _⟩ (fun pre s ⟨ds, a, b, h, _⟩ => by simp [looksB_k]) (fun pre' k post s hx ⟨ds', y, e, h, hl'⟩ => ?_)
          · obtain ⟨s', rfl, ds', y, e, rfl, hl'⟩ := this
            simp [ow] at hl' ⊢
            exact ⟨ds', rfl, by omega⟩
          · subst h
            have hp' : pre'.length < 4 := by have := congrArg List.length hx; simp at this; omega
            have hlim' : ds'.length < lim := by unfold lim; omega
            simp [fstep_k, ow, hlim']
            exact ⟨ds' ++ [y * 69621 % 2147483629 / 7 % 1000], by simp, by simp; omega⟩
end Den
set_option Elab.async false
set_option linter.all false
set_option maxRecDepth 100000
set_option autoImplicit false
set_option maxHeartbeats 1000000
namespace Den
open PySem L2
theorem datas_mem : ∀ {xs : List D} {x : D}, D.datas xs = true → x ∈ xs → x.data = true
  | y :: ys, x, h, m => by
    unfold D.datas at h
    rw [Bool.and_eq_true] at h
    rcases List.mem_cons.mp m with rfl | m
    · exact h.1
    · exact datas_mem h.2 m
theorem deps_mem : ∀ {xs : List D} {x : D}, x ∈ xs → x.dep ≤ D.deps xs
  | y :: ys, x, m => by
    unfold D.deps
    rcases List.mem_cons.mp m with rfl | m
    · omega
    · have := deps_mem m; omega
/-- list by list -/
theorem all_same {xs ys : List D} (h : xs.length = ys.length) : ((List.range ys.length).all fun k => decide (xs[k]? = ys[k]?)) = decide (xs = ys) := by
  rw [Bool.eq_iff_iff]
  simp only [List.all_eq_true, List.mem_range, decide_eq_true_eq]
  constructor
  · intro q
    apply List.ext_getElem? 
    intro k
    by_cases hk : k < ys.length
    · exact q k hk
    · rw [List.getElem?_eq_none (by omega), List.getElem?_eq_none (by omega)]
  · intro q k _; rw [q]
mutual
/-- no list is long -/
def D.lens : D → Bool
  | .lst xs => decide (xs.length ≤ lim) && D.lenss xs
  | .tup xs => decide (xs.length ≤ lim) && D.lenss xs
  | _ => true
def D.lenss : List D → Bool
  | [] => true
  | x :: xs => D.lens x && D.lenss xs
end
theorem lenss_mem : ∀ {xs : List D} {x : D}, D.lenss xs = true → x ∈ xs → x.lens = true
  | y :: ys, x, h, m => by
    unfold D.lenss at h
    rw [Bool.and_eq_true] at h
    rcases List.mem_cons.mp m with rfl | m
    · exact h.1
    · exact lenss_mem h.2 m
theorem same_ok (n : Nat) : ∀ (m : Nat) (a d : D), a.data = true → d.data = true → d.lens = true → d.dep ≤ m → Pr.call (n + m + 1) F.L_same [.val a, .val d] = .ret (.shr (.bl (decide (a = d)))) [] := by
  intro m
  induction m with
  | zero =>
    intro a d ha hd hz hm
    rw [call_L_same]
    cases d <;> first | (exact Bool.noConfusion hd) | (cases a <;> first | (exact Bool.noConfusion ha) | (simp [runF, I_L_same]; done)) | (simp [D.dep] at hm)
  | succ m ih =>
    intro a d ha hd hz hm
    rw [call_L_same]
    have key : ∀ (xs ys : List D) (c : List D → D), D.datas xs = true → D.datas ys = true → D.lenss ys = true → D.deps ys ≤ m → xs.length = ys.length → (∀ zs (k : Int), ixS (c zs) (.int k) = (ixI zs k).map .shr) →
        ∀ {o : O}, forRun (forStep (Pr.env (n + (m + 1))) (Tg.nm 2) [C.iff (T.x (X.call F.L_same [false, false] (XS.cons (X.op Op.ix (XS.cons (X.var 0) (XS.cons (X.var 2) XS.nil))) (XS.cons (X.op Op.ix (XS.cons (X.var 1) (XS.cons (X.var 2) XS.nil))) XS.nil)))).not [C.ret (X.bl false)] [] []])
          (looksB [PV.val (D.int ys.length)] [D.int ys.length]) [2] (List.map (fun k : Nat => D.int k) (List.range ys.length)) ⟨[some (.shr (c xs)), some (.shr (c ys)), none], []⟩ = o →
        (decide (xs = ys) = true ∧ o = .nx ⟨[some (.shr (c xs)), some (.shr (c ys)), none], []⟩) ∨ (decide (xs = ys) = false ∧ ∃ s', o = .rt (.shr (.bl false)) s' ∧ s'.bs = []) := by
      intro xs ys c h1 h2 h3 h4 h5 hc o h
      rw [← all_same h5]
      have at_ : ∀ k, k < ys.length → ∃ x y, xs[k]? = some x ∧ ys[k]? = some y ∧ x.data = true ∧ y.data = true ∧ y.lens = true ∧ y.dep ≤ m := fun k hk => by
        have e1 : xs[k]? = some xs[k] := List.getElem?_eq_getElem (by omega)
        have e2 : ys[k]? = some ys[k] := List.getElem?_eq_getElem hk
        exact ⟨xs[k], ys[k], e1, e2, datas_mem h1 (List.getElem_mem _), datas_mem h2 (List.getElem_mem _), lenss_mem h3 (List.getElem_mem _), Nat.le_trans (deps_mem (List.getElem_mem _)) h4⟩
      refine for_all h (fun k => decide (xs[k]? = ys[k]?)) (by simp [looksB_k]) (by simp) (fun k hk ht => ?_) (fun k hk ht => ?_)
      · obtain ⟨x, y, e1, e2, a1, a2, a3, a4⟩ := at_ k (List.mem_range.mp hk)
        have e3 : x = y := by
          have ht := of_decide_eq_true ht
          rw [e1, e2] at ht
          exact Option.some.inj ht
        subst e3
        have := ih x x a1 a2 a3 a4
        simp [fstep_k, hc, ixI_nat, e1, e2, show n + (m + 1) = n + m + 1 from rfl, this, looksB_k]
      · obtain ⟨x, y, e1, e2, a1, a2, a3, a4⟩ := at_ k (List.mem_range.mp hk)
        have e3 : ¬ x = y := by
          have ht := of_decide_eq_false ht
          rw [e1, e2] at ht
          exact fun z => ht (by rw [z])
        have := ih x y a1 a2 a3 a4
        simp [fstep_k, hc, ixI_nat, e1, e2, show n + (m + 1) = n + m + 1 from rfl, this, e3, looksB_k]
    cases d <;> first | (exact Bool.noConfusion hd) | (cases a <;> first | (exact Bool.noConfusion ha) | (simp [runF, I_L_same]; done)) | skip
    · rename_i ys
      cases a <;> first | (exact Bool.noConfusion ha) | (simp [runF, I_L_same]; done) | skip
      rename_i xs
      by_cases hl : (xs.length : Int) = ys.length
      · have hz' : ys.length ≤ lim ∧ D.lenss ys = true := by
          have hz : (decide (ys.length ≤ lim) && D.lenss ys) = true := hz
          rw [Bool.and_eq_true, decide_eq_true_eq] at hz
          exact hz
        have h62 : (ys.length : Int) < 4611686018427387904 := by
          have := hz'.1
          unfold lim at this
          omega
        simp [runF, I_L_same, hl, h62]
        generalize h : forRun _ _ _ _ _ = o
        rcases key xs ys .lst ha hd hz'.2 (by have : D.deps ys + 1 ≤ m + 1 := hm; omega) (by omega) (fun _ _ => rfl) h with ⟨e, rfl⟩ | ⟨e, s', rfl, e2⟩
        · have := of_decide_eq_true e
          simp [this]
        · have := of_decide_eq_false e
          simp [this, e2]
      · have hne : xs ≠ ys := fun z => hl (by rw [z])
        simp [runF, I_L_same, hl, hne]
    · rename_i ys
      cases a <;> first | (exact Bool.noConfusion ha) | (simp [runF, I_L_same]; done) | skip
      rename_i xs
      by_cases hl : (xs.length : Int) = ys.length
      · have hz' : ys.length ≤ lim ∧ D.lenss ys = true := by
          have hz : (decide (ys.length ≤ lim) && D.lenss ys) = true := hz
          rw [Bool.and_eq_true, decide_eq_true_eq] at hz
          exact hz
        have h62 : (ys.length : Int) < 4611686018427387904 := by
          have := hz'.1
          unfold lim at this
          omega
        simp [runF, I_L_same, hl, h62]
        generalize h : forRun _ _ _ _ _ = o
        rcases key xs ys .tup ha hd hz'.2 (by have : D.deps ys + 1 ≤ m + 1 := hm; omega) (by omega) (fun _ _ => rfl) h with ⟨e, rfl⟩ | ⟨e, s', rfl, e2⟩
        · have := of_decide_eq_true e
          simp [this]
        · have := of_decide_eq_false e
          simp [this, e2]
      · have hne : xs ≠ ys := fun z => hl (by rw [z])
        simp [runF, I_L_same, hl, hne]
end Den
set_option Elab.async false
set_option linter.all false
set_option maxRecDepth 100000
set_option autoImplicit false
set_option maxHeartbeats 1000000
namespace Den
open PySem L2
theorem range_split {n x : Nat} {pre post : List Nat} (h : List.range n = pre ++ x :: post) : x = pre.length ∧ pre.length < n := by
  have e : (List.range n)[pre.length]? = some x := by rw [h]; simp
  obtain ⟨a, b⟩ := List.getElem?_eq_some_iff.mp e
  rw [List.getElem_range] at b
  simp at a
  exact ⟨b.symm, a⟩
/-! ### shapes -/
def tI (l : List Int) : D := .tup (l.map .int)
abbrev Sh := List (List Int)
def tS (sh : Sh) : D := .tup (sh.map tI)
@[simp] theorem same_self (n m : Nat) (d : D) (h : d.nob = true) (hz : d.lens = true) (hd : d.dep ≤ m) : Pr.call (n + m + 1) F.L_same [.val d, .val d] = .ret (.shr (.bl true)) [] := by
  have := same_ok n m d d (nob_data d h) (nob_data d h) hz hd
  simpa using this
theorem draw_ex (n : Nat) (ds : List Int) (m : Int) (hm : 0 < m) : ∃ (v : Int) (ds' : List Int), 0 ≤ v ∧ v < m ∧ Pr.call (n+1) F.L_draw [.bor (.lst (ds.map .int)), .val (.int m)] = .ret (.shr (.int v)) [.lst (ds'.map .int)] :=
  ⟨_, _, (drawV_b ds hm).1, (drawV_b ds hm).2, draw_ok n ds m hm⟩
theorem ixI_in {α : Type} {xs : List α} {i : Int} (h0 : 0 ≤ i) (h : i < xs.length) : ∃ x, ixI xs i = some x ∧ x ∈ xs := by
  obtain ⟨k, rfl⟩ := Int.eq_ofNat_of_zero_le h0
  rw [ixI_nat]
  have hk : k < xs.length := by omega
  exact ⟨xs[k], List.getElem?_eq_getElem hk, List.getElem_mem _⟩
theorem ixI_map {α β : Type} (f : α → β) (xs : List α) (i : Int) : ixI (xs.map f) i = (ixI xs i).map f := by
  unfold ixI atI
  rw [List.length_map]
  cases ixN xs.length i with
  | none => rfl
  | some k => simp
theorem pick_any (n : Nat) (ds : List Int) (xs : List D) (hx : 0 < xs.length) : ∃ v ds', v ∈ xs ∧ Pr.call (n+2) F.L_pick [.bor (.lst (ds.map .int)), .val (.lst xs)] = .ret (.shr v) [.lst (List.map D.int ds')] := by
  rw [call_L_pick]
  obtain ⟨v, ds', b1, b2, hd⟩ := draw_ex n ds (xs.length : Int) (by omega)
  obtain ⟨x, e, hx⟩ := ixI_in b1 b2
  refine ⟨x, ds', hx, ?_⟩
  simp [runF, I_L_pick, hd, e]
theorem pick_ok (n : Nat) (ds : List Int) (xs : List Int) (hx : 0 < xs.length) : ∃ v ds', v ∈ xs ∧ Pr.call (n+2) F.L_pick [.bor (.lst (ds.map .int)), .val (.lst (xs.map .int))] = .ret (.shr (.int v)) [.lst (List.map D.int ds')] := by
  obtain ⟨v, ds', hv, e⟩ := pick_any n ds (xs.map .int) (by simpa using hx)
  obtain ⟨i, hi, rfl⟩ := List.mem_map.mp hv
  exact ⟨i, ds', hi, e⟩
theorem pick_str (n : Nat) (ds : List Int) (xs : List Str) (hx : 0 < xs.length) : ∃ v ds', v ∈ xs ∧ Pr.call (n+2) F.L_pick [.bor (.lst (ds.map .int)), .val (.lst (xs.map .str))] = .ret (.shr (.str v)) [.lst (List.map D.int ds')] := by
  obtain ⟨v, ds', hv, e⟩ := pick_any n ds (xs.map .str) (by simpa using hx)
  obtain ⟨i, hi, rfl⟩ := List.mem_map.mp hv
  exact ⟨i, ds', hi, e⟩
theorem for_chk {α : Type} {body : S → D → O} {ok : S → Bool} {w : List Nat} {f : α → D} {xs : List α} {s : S} {o : O} (h : forRun body ok w (xs.map f) s = o) (t : α → Bool) (c : Nat) (P : S → Prop) (h0 : P s) (hok : ∀ s, P s → ok s = true)
    (hyes : ∀ x ∈ xs, t x = true → ∀ s, P s → ∃ s', body (s.wipe w) (f x) = .nx s' ∧ P s') (hno : ∀ x ∈ xs, t x = false → ∀ s, P s → ∃ s', body (s.wipe w) (f x) = .ex c [] s' ∧ s'.bs = []) :
    (xs.all t = true ∧ ∃ s', o = .nx (s'.wipe w) ∧ P s') ∨ (xs.all t = false ∧ ∃ s', o = .ex c [] s' ∧ s'.bs = []) := by
  subst h
  induction xs generalizing s with
  | nil => exact .inl ⟨rfl, s, by rw [List.map_nil, forRun_nil, if_pos (hok s h0)], h0⟩
  | cons x xs ih =>
    rw [List.map_cons, forRun_cons, if_pos (hok s h0)]
    cases ht : t x with
    | false =>
      obtain ⟨s', h1, h2⟩ := hno x List.mem_cons_self ht s h0
      rw [h1]
      exact .inr ⟨by simp [ht], s', rfl, h2⟩
    | true =>
      obtain ⟨s', h1, h2⟩ := hyes x List.mem_cons_self ht s h0
      rw [h1, loopNext_nx]
      rcases ih h2 (fun y hy => hyes y (List.mem_cons_of_mem _ hy)) (fun y hy => hno y (List.mem_cons_of_mem _ hy)) with ⟨a, b⟩ | ⟨a, b⟩
      · exact .inl ⟨by simp [ht, a], b⟩
      · exact .inr ⟨by simp [ht, a], b⟩
theorem for_ret {α : Type} {body : S → D → O} {ok : S → Bool} {w : List Nat} {f : α → D} {xs : List α} {s : S} {o : O} (h : forRun body ok w (xs.map f) s = o) (t : α → Bool) (v : SV) (P : List α → S → Prop) (h0 : P [] s) (hok : ∀ pre s, P pre s → ok s = true)
    (hyes : ∀ pre x post s, xs = pre ++ x :: post → t x = true → P pre s → ∃ s', body (s.wipe w) (f x) = .nx s' ∧ P (pre ++ [x]) s')
    (hno : ∀ pre x post s, xs = pre ++ x :: post → t x = false → P pre s → ∃ s', body (s.wipe w) (f x) = .rt v s' ∧ s'.bs = []) :
    (xs.all t = true ∧ ∃ s', o = .nx (s'.wipe w) ∧ P xs s') ∨ (xs.all t = false ∧ ∃ s', o = .rt v s' ∧ s'.bs = []) := by
  subst h
  suffices ∀ (post pre : List α) (s : S), xs = pre ++ post → P pre s → (post.all t = true ∧ ∃ s', forRun body ok w (post.map f) s = .nx (s'.wipe w) ∧ P xs s') ∨ (post.all t = false ∧ ∃ s', forRun body ok w (post.map f) s = .rt v s' ∧ s'.bs = []) from this xs [] s rfl h0
  intro post
  induction post with
  | nil => intro pre s e p; exact .inl ⟨rfl, s, by rw [List.map_nil, forRun_nil, if_pos (hok pre s p)], by rw [e, List.append_nil]; exact p⟩
  | cons x post ih =>
    intro pre s e p
    rw [List.map_cons, forRun_cons, if_pos (hok pre s p)]
    cases ht : t x with
    | false =>
      obtain ⟨s', h1, h2⟩ := hno pre x post s e ht p
      rw [h1]
      exact .inr ⟨by simp [ht], s', rfl, h2⟩
    | true =>
      obtain ⟨s', h1, h2⟩ := hyes pre x post s e ht p
      rw [h1, loopNext_nx]
      rcases ih (pre ++ [x]) s' (by rw [e]; simp) h2 with ⟨a, b⟩ | ⟨a, b⟩
      · exact .inl ⟨by simp [ht, a], b⟩
      · exact .inr ⟨by simp [ht, a], b⟩
def ascB (l : List Int) : Bool := (List.range l.length).all fun i => decide (i = 0) || decide (l.getD (i - 1) 0 < l.getD i 0)
theorem for_end {α : Type} {body : S → D → O} {ok : S → Bool} {w : List Nat} {f : α → D} {xs : List α} {s : S} {o : O} (h : forRun body ok w (xs.map f) s = o) (t : α → Bool) (Q : O → Prop) (hQ : ∀ o k, Q o → loopNext k w o = o) (P : List α → S → Prop) (h0 : P [] s) (hok : ∀ pre s, P pre s → ok s = true)
    (hyes : ∀ pre x post s, xs = pre ++ x :: post → t x = true → P pre s → ∃ s', body (s.wipe w) (f x) = .nx s' ∧ P (pre ++ [x]) s')
    (hno : ∀ pre x post s, xs = pre ++ x :: post → t x = false → P pre s → Q (body (s.wipe w) (f x))) :
    (xs.all t = true ∧ ∃ s', o = .nx (s'.wipe w) ∧ P xs s') ∨ (xs.all t = false ∧ Q o) := by
  subst h
  suffices ∀ (post pre : List α) (s : S), xs = pre ++ post → P pre s → (post.all t = true ∧ ∃ s', forRun body ok w (post.map f) s = .nx (s'.wipe w) ∧ P xs s') ∨ (post.all t = false ∧ Q (forRun body ok w (post.map f) s)) from this xs [] s rfl h0
  intro post
  induction post with
  | nil => intro pre s e p; exact .inl ⟨rfl, s, by rw [List.map_nil, forRun_nil, if_pos (hok pre s p)], by rw [e, List.append_nil]; exact p⟩
  | cons x post ih =>
    intro pre s e p
    rw [List.map_cons, forRun_cons, if_pos (hok pre s p)]
    cases ht : t x with
    | false =>
      have := hno pre x post s e ht p
      rw [hQ _ _ this]
      exact .inr ⟨by simp [-List.map_flatten, -List.length_flatten, ht], this⟩
    | true =>
      obtain ⟨s', h1, h2⟩ := hyes pre x post s e ht p
      rw [h1, loopNext_nx]
      rcases ih (pre ++ [x]) s' (by rw [e]; simp [-List.map_flatten, -List.length_flatten]) h2 with ⟨a, b⟩ | ⟨a, b⟩
      · exact .inl ⟨by simp [-List.map_flatten, -List.length_flatten, ht, a], b⟩
      · exact .inr ⟨by simp [-List.map_flatten, -List.length_flatten, ht, a], b⟩

end Den
set_option Elab.async false
set_option linter.all false
set_option maxRecDepth 100000
set_option autoImplicit false
set_option maxHeartbeats 1000000
namespace Den
open PySem L2
/-! ### names -/
def mS : Str := Str.ofString "m"
def abc : Str := Str.ofString "abcdefghijklmnopqrstuvwxyz"
theorem mS_len : mS.length ≤ 1000 := by decide +kernel
theorem abc_len : abc.length ≤ lim ∧ abc.cps.toList.length = 26 := by decide +kernel
theorem abc_at : ∀ k : Nat, k < 26 → abc.cps.toList[k]? = some (97 + k) := by decide +kernel
/-- a name that is let: one to eight small letters -/
structure NameOk (z : Str) : Prop where
  pos : 1 ≤ z.length
  le : z.length ≤ 8
  az : ∀ c ∈ z.cps.toList, 97 ≤ c ∧ c ≤ 122
theorem str_app (x y : Str) : (x ++ y).length = x.length + y.length := by
  show (x.cps ++ y.cps).size = _
  simp; rfl
theorem app_cps (x y : Str) : (x ++ y).cps.toList = x.cps.toList ++ y.cps.toList := by
  show (x.cps ++ y.cps).toList = _
  simp
theorem mul_m {a : Int} (h0 : 0 ≤ a) (h1 : a < 4) : (Txt.mul mS a).length ≤ 3 ∧ ∀ c ∈ (Txt.mul mS a).cps.toList, 97 ≤ c ∧ c ≤ 122 := by
  have : a = 0 ∨ a = 1 ∨ a = 2 ∨ a = 3 := by omega
  rcases this with rfl | rfl | rfl | rfl <;> decide +kernel
theorem NameOk.strOk {z : Str} (h : NameOk z) : PyData.strOk z = true := by
  unfold PyData.strOk
  rw [← Array.all_toList, List.all_eq_true]
  intro c hc
  have := h.az c hc
  exact decide_eq_true (by omega)
theorem NameOk.ne {z : Str} (h : NameOk z) : z ≠ "?" := by
  intro e
  have : (63 : Nat) ∈ z.cps.toList := by rw [e]; decide +kernel
  have := h.az 63 this
  omega
def nmW (A B : Str) (c : Nat) : Str := A ++ Str.mk #[c] ++ B
theorem nmW_ok {A B : Str} {c : Nat} (hA : A.length ≤ 3 ∧ ∀ c ∈ A.cps.toList, 97 ≤ c ∧ c ≤ 122) (hB : B.length ≤ 3 ∧ ∀ c ∈ B.cps.toList, 97 ≤ c ∧ c ≤ 122) (hc : 97 ≤ c ∧ c ≤ 122) : NameOk (nmW A B c) := by
  have l : (nmW A B c).length = A.length + 1 + B.length := by unfold nmW; rw [str_app, str_app]; rfl
  refine ⟨by omega, by omega, fun d hd => ?_⟩
  unfold nmW at hd
  rw [app_cps, app_cps] at hd
  rcases List.mem_append.mp hd with hd | hd
  · rcases List.mem_append.mp hd with hd | hd
    · exact hA.2 d hd
    · have : d = c := by simpa using hd
      rw [this]; exact hc
  · exact hB.2 d hd
theorem nmW_inj {A B : Str} {c d : Nat} (h : nmW A B c = nmW A B d) : c = d := by
  have h2 := congrArg (fun z : Str => z.cps.toList) h
  simp only [nmW, app_cps] at h2
  have h3 := List.append_cancel_left (List.append_cancel_right h2)
  simpa using h3
def nmC (s t : Int) (k : Nat) : Nat := 97 + ((s + (k : Int) * t) % 26).toNat
theorem nmC_inj {s t : Int} (ht : t ∈ [(1 : Int), 25, 3, 7]) {i j : Nat} (hi : i < 5) (hj : j < 5) (h : nmC s t i = nmC s t j) : i = j := by
  unfold nmC at h
  have b1 : 0 ≤ (s + (i : Int) * t) % 26 := Int.emod_nonneg _ (by omega)
  have b2 : 0 ≤ (s + (j : Int) * t) % 26 := Int.emod_nonneg _ (by omega)
  have h2 : (s + (i : Int) * t) % 26 = (s + (j : Int) * t) % 26 := by omega
  simp only [List.mem_cons, List.not_mem_nil, or_false] at ht
  rcases ht with rfl | rfl | rfl | rfl <;> omega
def nmS (m s t : Int) (Z A B : Str) (L : List D) (e : Option SV) (bs : List D) : S := ⟨[some (.bor 0), some (.shr (.int m)), some (.shr (.str Z)), some (.shr (.int s)), some (.shr (.int t)), some (.shr (.str A)), some (.shr (.str B)), some (.own (.lst L)), e], bs⟩
theorem names_step (n : Nat) (m s t : Int) (kk : Int) (Z A B : Str) (L : List Str) (e : Option SV) (bs : List D) (hg : mulG kk t = true) (l0 : Z.length ≤ lim) (c : Nat) (hc : ixI Z.cps.toList ((s + kk * t) % 26) = some c) (C1 : Str) (hC1 : C1 = Str.mk #[c]) (l1 : A.length + C1.length ≤ lim) (l2 : (A ++ C1).length + B.length ≤ lim) (l3 : L.length < lim) : forStep (Pr.env n) (.nm 8) [.expr (.mut .append 7 (.cons (.op .add (.cons (.op .add (.cons (.var 5) (.cons (.op .ix (.cons (.var 2) (.cons (.op .mod (.cons (.op .int1 (.cons (.op .add (.cons (.var 3) (.cons (.op .mul (.cons (.var 8) (.cons (.var 4) .nil))) .nil))) .nil)) (.cons (.int 26) .nil))) .nil))) .nil))) (.cons (.var 6) .nil))) .nil))] (nmS m s t Z A B (L.map .str) e bs) (.int kk) = .nx (nmS m s t Z A B ((L ++ [A ++ C1 ++ B]).map .str) (some (.shr (.int kk))) bs) := by
  unfold nmS; simp [fstep_k, hg, l0, hc, ← hC1, l1, l2, l3]
theorem names_ok (n : Nat) (ds : List Int) (m : Nat) (hm : m ≤ 5) : ∃ (nm : List Str) (ds' : List Int), nm.length = m ∧ (∀ z ∈ nm, NameOk z) ∧ nm.Nodup ∧ Pr.call (n+3) F.L_names [.bor (.lst (ds.map .int)), .val (.int m)] = .ret (.own (.lst (nm.map .str))) [.lst (List.map D.int ds')] := by
  rw [call_L_names]
  obtain ⟨s, ds1, s1, s2, d1⟩ := draw_ex (n+1) ds 26 (by omega)
  obtain ⟨t, ds2, t1, d2⟩ := pick_ok n ds1 [1, 25, 3, 7] (by decide)
  obtain ⟨a, ds3, a1, a2, d3⟩ := draw_ex (n+1) ds2 4 (by omega)
  obtain ⟨b, ds4, b1, b2, d4⟩ := draw_ex (n+1) ds3 4 (by omega)
  have tm := t1
  have t2 : 1 ≤ t ∧ t ≤ 25 := by simp at t1; omega
  simp at d2
  have ha : 0 ≤ a ∧ a ≤ 1000 ∧ mS.length ≤ 1000 := ⟨a1, by omega, mS_len⟩
  have hb : 0 ≤ b ∧ b ≤ 1000 ∧ mS.length ≤ 1000 := ⟨b1, by omega, mS_len⟩
  have la := mul_m a1 a2
  have lb := mul_m b1 b2
  have em : Str.ofString "m" = mS := rfl
  have ez : Str.ofString "abcdefghijklmnopqrstuvwxyz" = abc := rfl
  have hm1 : (-4611686018427387904 : Int) ≤ m := by omega
  have hm2 : (m : Int) < 4611686018427387904 := by omega
  have hm3 : m < 4611686018427387904 := by omega
  simp only [runF, I_L_names, em, ez]
  simp [d1, d2, d3, d4, ha, hb, hm1, hm2, hm3]
  generalize Txt.mul mS a = A at la
  generalize Txt.mul mS b = B at lb
  generalize h : forRun _ _ _ _ _ = o
  have := for_thru h (fun pre s' => ∃ (nm : List Str) (e : Option SV), nm = ((List.range pre.length).map fun k => nmW A B (nmC s t k)) ∧ s' = ⟨[some (.bor 0), some (.shr (.int m)), some (.shr (.str abc)), some (.shr (.int s)), some (.shr (.int t)), some (.shr (.str A)), some (.shr (.str B)), some (.own (.lst (nm.map .str))), e], [.lst (ds4.map .int)]⟩)
    ⟨[], none, rfl, rfl⟩ (fun pre s' ⟨nm, e, _, h⟩ => by simp [looksB_k, h]) (fun pre x post s' hx ⟨nm, e, hl, h⟩ => by
      subst h
      obtain ⟨rfl, hlt⟩ := range_split hx
      have hg : mulG ((pre.length : Nat) : Int) t = true := by unfold mulG; simp; omega
      have h0 : 0 ≤ (s + (pre.length : Int) * t) % 26 := Int.emod_nonneg _ (by omega)
      have h1 : (s + (pre.length : Int) * t) % 26 < 26 := Int.emod_lt_of_pos _ (by omega)
      have hc : ixI abc.cps.toList ((s + (pre.length : Int) * t) % 26) = some (nmC s t pre.length) := by
        have e1 : (s + (pre.length : Int) * t) % 26 = ((((s + (pre.length : Int) * t) % 26).toNat : Nat) : Int) := by omega
        rw [e1, ixI_nat, abc_at _ (by omega)]
        unfold nmC; simp
      obtain ⟨C1, hC1⟩ : ∃ C1, C1 = Str.mk #[nmC s t pre.length] := ⟨_, rfl⟩
      have c1 : C1.length = 1 := by rw [hC1]; rfl
      have l1 : A.length + C1.length ≤ lim := by rw [c1]; unfold lim; omega
      have l2 : (A ++ C1).length + B.length ≤ lim := by rw [str_app, c1]; unfold lim; omega
      have l3 : nm.length < lim := by rw [hl]; simp; unfold lim; omega
      refine ⟨nmS m s t abc A B ((nm ++ [A ++ C1 ++ B]).map .str) (some (.shr (.int pre.length))) [.lst (ds4.map .int)], ?_, nm ++ [A ++ C1 ++ B], some (.shr (.int pre.length)), ?_, rfl⟩
      · exact names_step (n + 2) m s t (pre.length : Int) abc A B nm e [.lst (ds4.map .int)] hg abc_len.1 _ hc C1 hC1 l1 l2 l3
      · rw [hl, List.length_append, List.length_singleton, List.range_succ, List.map_append, List.map_singleton, hC1]; rfl)
  obtain ⟨s', rfl, nm, e, hl, rfl⟩ := this
  have hl : nm = (List.range m).map fun k => nmW A B (nmC s t k) := by simpa using hl
  subst hl
  refine ⟨(List.range m).map fun k => nmW A B (nmC s t k), by simp, fun z hz => ?_, ?_, ds4, ?_⟩
  · obtain ⟨k, _, rfl⟩ := List.mem_map.mp hz
    refine nmW_ok la lb ?_
    unfold nmC
    have h0 : 0 ≤ (s + (k : Int) * t) % 26 := Int.emod_nonneg _ (by omega)
    have h1 : (s + (k : Int) * t) % 26 < 26 := Int.emod_lt_of_pos _ (by omega)
    omega
  · rw [List.nodup_iff_pairwise_ne, List.pairwise_map]
    refine List.Pairwise.imp_of_mem ?_ (List.nodup_iff_pairwise_ne.mp List.nodup_range)
    intro i j hi hj hij e
    rw [List.mem_range] at hi hj
    exact hij (nmC_inj tm (by omega) (by omega) (nmW_inj e))
  · simp
end Den
set_option Elab.async false
set_option linter.all false
set_option maxRecDepth 100000
set_option autoImplicit false
set_option maxHeartbeats 1000000
namespace Den
open PySem L2
/-! ### the rows of a kind book -/
structure Rec where
  nm : Str
  sz : Nat
  par : Option Str
  lds : List Int
def parD : Option Str → D
  | none => .non
  | some p => .str p
def Rec.d (r : Rec) : D := .tup [.str r.nm, .int r.sz, parD r.par, .tup (r.lds.map .int)]
structure GoodRow (pre : List Rec) (r : Rec) : Prop where
  s1 : 1 ≤ r.sz
  s4 : r.sz ≤ 4
  root : r.par = none → r.lds = []
  son : ∀ p, r.par = some p → ∃ q ∈ pre, q.nm = p ∧ r.lds.length = r.sz ∧ ∀ l ∈ r.lds, 0 ≤ l ∧ l < q.sz
def GoodRows (rows : List Rec) : Prop := ∀ pre r post, rows = pre ++ r :: post → GoodRow pre r
theorem good_nil : GoodRows [] := fun pre r post h => by cases pre <;> cases h
theorem good_snoc {rows : List Rec} {r : Rec} (h : GoodRows rows) (g : GoodRow rows r) : GoodRows (rows ++ [r]) := by
  intro pre x post e
  rcases List.eq_nil_or_concat post with rfl | ⟨post', y, rfl⟩
  · have := List.append_inj' e rfl
    obtain ⟨rfl, e2⟩ := this
    cases e2
    exact g
  · rw [show pre ++ x :: (post'.concat y) = (pre ++ x :: post') ++ [y] by simp] at e
    obtain ⟨e1, e2⟩ := List.append_inj' e rfl
    exact h pre x post' e1
structure Good (rows : List Rec) : Prop where
  ne : rows ≠ []
  le : rows.length ≤ 5
  nd : (rows.map Rec.nm).Nodup
  ok : ∀ r ∈ rows, NameOk r.nm
  rw_ : GoodRows rows
/-- the leads are drawn -/
theorem leads_comp (n : Nat) (q : Nat) (hq : 0 < q) (sz : Nat) (hs : sz ≤ 4) (m : D) (nm rw : D) (k at_ : D) (P0 P2 P3 : D) (ds : List Int) (o : Out (List D))
    (h : compRun (compStep (Pr.env (n+1)) [9] (.nm 9) .tru (.call F.L_draw [true, false] (.cons (.var 0) (.cons (.op .ix (.cons (.var 7) (.cons (.int 1) .nil))) .nil)))) (looksB [.at 5] [.int sz]) ((List.range sz).map fun k : Nat => D.int k) []
      ⟨[some (.bor 0), some (.shr m), some (.shr nm), some (.own rw), some (.shr k), some (.shr (.int sz)), some (.shr at_), some (.shr (.tup [P0, .int q, P2, P3])), none, none], [.lst (ds.map .int)]⟩ = o) :
    ∃ (ls : List Int) (ds' : List Int), ls.length = sz ∧ (∀ l ∈ ls, 0 ≤ l ∧ l < q) ∧ o = .ok (ls.map .int) ⟨[some (.bor 0), some (.shr m), some (.shr nm), some (.own rw), some (.shr k), some (.shr (.int sz)), some (.shr at_), some (.shr (.tup [P0, .int q, P2, P3])), none, none], [.lst (ds'.map .int)]⟩ := by
  have := comp_inv h (fun pre out s => ∃ (ls ds' : List Int), ls.length = pre.length ∧ (∀ l ∈ ls, 0 ≤ l ∧ l < q) ∧ out = ls.map .int ∧ s = ⟨[some (.bor 0), some (.shr m), some (.shr nm), some (.own rw), some (.shr k), some (.shr (.int sz)), some (.shr at_), some (.shr (.tup [P0, .int q, P2, P3])), none, none], [.lst (ds'.map .int)]⟩)
    ⟨[], ds, rfl, (by intro l hl; cases hl), rfl, rfl⟩ (fun pre out s ⟨ls, ds', _, _, _, h⟩ => by subst h; simp [looksB_k]) (fun pre x post out s hx ⟨ls, ds', h1, h2, h3, h4⟩ => by
      subst h4
      obtain ⟨v, ds2, v1, v2, hd⟩ := draw_ex n ds' (q : Int) (by omega)
      have e1 : ixI [P0, D.int q, P2, P3] 1 = some (.int q) := rfl
      refine .inl ⟨.int v, ⟨[some (.bor 0), some (.shr m), some (.shr nm), some (.own rw), some (.shr k), some (.shr (.int sz)), some (.shr at_), some (.shr (.tup [P0, .int q, P2, P3])), none, none], [.lst (ds2.map .int)]⟩, ?_, ls ++ [v], ds2, by simp [h1], fun l hl => ?_, by simp [h3], rfl⟩
      · simp [step_k, hd, e1]
      · rcases List.mem_append.mp hl with hl | hl
        · exact h2 l hl
        · rw [List.mem_singleton.mp hl]; exact ⟨v1, v2⟩) (by simp; unfold lim; omega)
  obtain ⟨out, s', rfl, ls, ds', h1, h2, rfl, rfl⟩ := this
  exact ⟨ls, ds', by simpa using h1, h2, rfl⟩
end Den
namespace Den
open PySem L2
def bkS (m : Nat) (nm : List Str) (rows : List Rec) (ds : List Int) (a b c d e f : Option SV) : S := ⟨[some (.bor 0), some (.shr (.int m)), some (.shr (.lst (nm.map .str))), some (.own (.lst (rows.map Rec.d))), a, b, c, d, e, f], [.lst (ds.map .int)]⟩
abbrev bkBody : List C := match I_L_book.body with
  | [_, _, .for _ _ b _, _] => b
  | _ => []
theorem book_step (n : Nat) (m : Nat) (nm : List Str) (rows : List Rec) (ds : List Int) (hr : rows.length ≤ 4) (hg : GoodRows rows) (x : Str) (hx : nm[rows.length]? = some x) :
    ∃ (r : Rec) (ds' : List Int) (a b c d e f : Option SV), r.nm = x ∧ GoodRow rows r ∧ forStep (Pr.env (n+2)) (.nm 4) bkBody (bkS m nm rows ds none none none none none none) (.int (rows.length : Nat)) = .nx (bkS m nm (rows ++ [r]) ds' a b c d e f) := by
  obtain ⟨sz, ds1, s1, d1⟩ := pick_ok n ds [2, 3, 1, 4] (by decide)
  simp only [List.map_cons, List.map_nil] at d1
  obtain ⟨w, ds2, w1, w2, d2⟩ := draw_ex (n+1) ds1 ((rows.length : Int) + 1) (by omega)
  have sb : 1 ≤ sz ∧ sz ≤ 4 := by simp at s1; omega
  obtain ⟨z, rfl⟩ := Int.eq_ofNat_of_zero_le (by omega : 0 ≤ sz)
  have hx2 : ixI (nm.map D.str) ((rows.length : Nat) : Int) = some (.str x) := by rw [ixI_nat, List.getElem?_map, hx]; rfl
  have l3 : rows.length < lim := by unfold lim; omega
  by_cases hw : w = 0
  · subst hw
    refine ⟨⟨x, z, none, []⟩, ds2, some (.shr (.int (rows.length : Nat))), some (.shr (.int z)), some (.shr (.int 0)), none, none, none, rfl, ⟨show 1 ≤ z by omega, show z ≤ 4 by omega, fun _ => rfl, fun p hp => (by cases hp)⟩, ?_⟩
    unfold bkS
    simp [fstep_k, bkBody, I_L_book, d1, d2, hx2, l3, Rec.d, parD]
  · obtain ⟨j, rfl⟩ : ∃ j : Nat, w = j + 1 := ⟨(w - 1).toNat, by omega⟩
    have hj : j < rows.length := by omega
    have hrow : ixI (rows.map Rec.d) ((j : Int)) = some (rows[j].d) := by rw [ixI_nat]; simp [hj]
    have e1 : ((j : Int) + 1 - 1) = j := by omega
    obtain ⟨q, hq⟩ : ∃ q, q = rows[j] := ⟨_, rfl⟩
    rw [← hq] at hrow
    have qm : q ∈ rows := by rw [hq]; exact List.getElem_mem _
    obtain ⟨pre, post, hsp⟩ := List.append_of_mem qm
    have q1 := (hg pre q post hsp).s1
    have e2 : ∀ a b c d : D, ixI [a, b, c, d] 0 = some a := fun _ _ _ _ => rfl
    have ne : ¬ ((j : Int) + 1 = 0) := by omega
    have hdz : D.eqq (.int ((j : Int) + 1)) (.int 0) = some (decide ((j : Int) + 1 = 0)) := by simp
    unfold bkS
    have z1 : (z : Int) < 4611686018427387904 := by omega
    have qd : q.d = .tup [.str q.nm, .int q.sz, parD q.par, .tup (q.lds.map .int)] := rfl
    simp [fstep_k, bkBody, I_L_book, d1, d2, hx2, l3, ne, e1, hrow, z1, qd]
    generalize h : compRun _ _ _ _ _ = o
    obtain ⟨ls, ds3, l1, l2, rfl⟩ := leads_comp (n+1) q.sz q1 z (by omega) _ _ _ _ _ _ _ _ _ _ h
    refine ⟨⟨x, z, some q.nm, ls⟩, rfl, ⟨show 1 ≤ z by omega, show z ≤ 4 by omega, fun h => (by cases h), fun p hp => ⟨q, qm, by cases hp; rfl, l1, l2⟩⟩, ds3, some (.shr (.int (rows.length : Nat))), some (.shr (.int z)), some (.shr (.int ((j : Int) + 1))), some (.shr (.tup [.str q.nm, .int q.sz, parD q.par, .tup (q.lds.map .int)])), some (.shr (.lst (ls.map .int))), none, ?_⟩
    simp [hx2, e2, l3, Rec.d, parD]
end Den
namespace Den
open PySem L2
theorem book_ok (n : Nat) (ds : List Int) (m : Nat) (h1 : 1 ≤ m) (h5 : m ≤ 5) : ∃ (rows : List Rec) (ds' : List Int), Good rows ∧ rows.length ≤ m ∧ Pr.call (n+4) F.L_book [.bor (.lst (ds.map .int)), .val (.int m)] = .ret (.own (.lst (rows.map Rec.d))) [.lst (ds'.map .int)] := by
  rw [call_L_book]
  obtain ⟨nm, ds1, n1, n2, n3, d1⟩ := names_ok n ds m h5
  obtain ⟨v, ds2, v1, v2, d2⟩ := draw_ex (n+2) ds1 (m : Int) (by omega)
  obtain ⟨k, hk⟩ : ∃ k : Nat, 1 + (1 + v) % (m : Int) = (k : Int) := ⟨(1 + (1 + v) % (m : Int)).toNat, by have := Int.emod_nonneg (1 + v) (by omega : (m : Int) ≠ 0); omega⟩
  have k1 : 1 ≤ k ∧ k ≤ m := by
    have a := Int.emod_nonneg (1 + v) (by omega : (m : Int) ≠ 0)
    have b := Int.emod_lt_of_pos (1 + v) (by omega : (0 : Int) < m)
    omega
  have m0 : 0 < m := h1
  have kb : k < 4611686018427387904 := by omega
  have kb2 : (-4611686018427387904 : Int) ≤ k := by omega
  have kb3 : (k : Int) < 4611686018427387904 := by omega
  simp only [runF, I_L_book]
  simp [d1, d2, m0, hk, kb, kb2, kb3]
  generalize h : forRun _ _ _ _ _ = o
  have := for_thru h (fun pre s => ∃ (rows : List Rec) (ds : List Int) (a b c d e f : Option SV), rows.length = pre.length ∧ rows.map Rec.nm = nm.take pre.length ∧ GoodRows rows ∧ s = ⟨[some (.bor 0), some (.shr (.int m)), some (.shr (.lst (nm.map .str))), some (.own (.lst (rows.map Rec.d))), a, b, c, d, e, f], [.lst (ds.map .int)]⟩)
    ⟨[], ds2, none, none, none, none, none, none, rfl, rfl, good_nil, rfl⟩ (fun pre s ⟨rows, ds, a, b, c, d, e, f, _, _, _, h⟩ => by simp [looksB_k, h]) (fun pre x post s hx ⟨rows, ds, a, b, c, d, e, f, q1, q2, q3, h⟩ => by
      subst h
      obtain ⟨rfl, hlt⟩ := range_split hx
      have hx2 : nm[rows.length]? = some (nm[rows.length]'(by omega)) := List.getElem?_eq_getElem _
      obtain ⟨r, ds', a', b', c', d', e', f', r1, r2, st⟩ := book_step (n+1) m nm rows ds (by omega) q3 _ hx2
      rw [q1] at st
      refine ⟨_, st, rows ++ [r], ds', a', b', c', d', e', f', by simp [q1], ?_, good_snoc q3 r2, rfl⟩
      rw [List.map_append, q2, List.map_singleton, r1, List.length_append, List.length_singleton, List.take_succ_eq_append_getElem (by omega : pre.length < nm.length)]
      simp [q1])
  obtain ⟨s', rfl, rows, ds', a, b, c, d, e, f, q1, q2, q3, rfl⟩ := this
  have q1 : rows.length = k := by simpa using q1
  have q2 : rows.map Rec.nm = nm.take k := by simpa using q2
  refine ⟨rows, ⟨fun z => by rw [z] at q1; simp at q1; omega, by omega, ?_, fun r hr => n2 _ ?_, q3⟩, by omega, ds', by simp⟩
  · rw [q2]; exact List.Nodup.sublist (List.take_sublist _ _) n3
  · have : r.nm ∈ rows.map Rec.nm := List.mem_map.mpr ⟨r, hr, rfl⟩
    rw [q2] at this
    exact List.mem_of_mem_take this
end Den
set_option Elab.async false
set_option linter.all false
set_option maxRecDepth 100000
set_option autoImplicit false
set_option maxHeartbeats 1000000
namespace Den
open PySem L2
theorem lt_a {c : Nat} (h : 97 ≤ c) : ¬ ([c] < (Str.ofString "a").cps.toList) := by
  have e : (Str.ofString "a").cps.toList = [97] := by decide +kernel
  rw [e]
  simp [List.cons_lt_cons_iff]; omega
theorem lt_z {c : Nat} (h : c ≤ 122) : ¬ ((Str.ofString "z").cps.toList < [c]) := by
  have e : (Str.ofString "z").cps.toList = [122] := by decide +kernel
  rw [e]
  simp [List.cons_lt_cons_iff]; omega
theorem is_name_ok (n : Nat) (z : Str) (h : NameOk z) : Pr.call (n+1) F.is_name [.val (.str z)] = .ret (.shr (.bl true)) [] := by
  rw [call_is_name]
  have l1 : z.length ≤ lim := by have := h.le; unfold lim; omega
  have l2 : (1 : Int) ≤ z.length := by have := h.pos; omega
  have l3 : (z.length : Int) ≤ 8 := by have := h.le; omega
  have l4 := h.pos
  have l5 := h.le
  simp [runF, I_is_name, l1, l2, l3, l4, l5]
  have hlen : z.cps.toList.length ≤ lim := by
    have e : z.cps.toList.length = z.length := by simp; rfl
    rw [e]; exact l1
  generalize hc : compRun _ _ _ _ _ = o
  have := comp_map hc (fun _ => D.bl true) (by simp [looksB_k]) (fun c hc => by
    have := h.az c hc
    simp [step_k, lt_a this.1, lt_z this.2]) hlen
  subst this
  have e : D.bls (z.cps.toList.map fun _ => D.bl true) = some (z.cps.toList.map fun _ => true) := by
    generalize z.cps.toList = l
    induction l with
    | nil => rfl
    | cons a l ih => simp [D.bls, ih]
  simp [e]
theorem check_name_ok (n : Nat) (z : Str) (h : NameOk z) : Pr.call (n+2) F.check_name [.val (.str z)] = .ret (.shr (.str z)) [] := by
  rw [call_check_name]
  simp [runF, I_check_name, is_name_ok n z h]
end Den
namespace Den
open PySem L2
/-! ### the kind book as data -/
abbrev aT : Str := "_told"
abbrev aN : Str := "names"
def tripD (r : Rec) : D := .tup [.int r.sz, parD r.par, .tup (r.lds.map .int)]
def toldD (rows : List Rec) : D := .dic (rows.map fun r => .str r.nm) (rows.map tripD)
def pbD (rows : List Rec) : D := .obj 8 [aT] [toldD rows]
def namesD (rows : List Rec) : D := .tup (rows.map fun r => .str r.nm)
def bookD (rows : List Rec) : D := .obj 8 [aT, aN] [toldD rows, namesD rows]
def names (rows : List Rec) : List Str := rows.map Rec.nm
def rowOf (rows : List Rec) (x : Str) : Option Rec := rows.find? fun r => decide (r.nm = x)
theorem rowOf_some {rows : List Rec} {x : Str} (h : x ∈ names rows) : ∃ r, rowOf rows x = some r ∧ r ∈ rows ∧ r.nm = x := by
  obtain ⟨q, hq, e⟩ := List.mem_map.mp h
  cases hf : rowOf rows x with
  | none =>
    have := List.find?_eq_none.mp hf q hq
    exact absurd (decide_eq_true e) this
  | some r =>
    have h1 := List.find?_some hf
    exact ⟨r, rfl, List.mem_of_find?_eq_some hf, of_decide_eq_true h1⟩
theorem in_told (rows : List Rec) (x : Str) : inS (.str x) (toldD rows) = some (decide (x ∈ names rows)) := by
  show some ((rows.map fun r => D.str r.nm).any fun k => decide (k = .str x)) = _
  congr 1
  unfold names
  induction rows with
  | nil => rfl
  | cons r rows ih =>
    rw [List.map_cons, List.any_cons, ih, List.map_cons]
    by_cases e : r.nm = x
    · simp [e]
    · have e2 : ¬ D.str r.nm = D.str x := fun z => e (by injection z)
      have e3 : ¬ x = r.nm := fun z => e z.symm
      simp [e2, e3]
theorem get_told (rows : List Rec) {x : Str} {r : Rec} (h : rowOf rows x = some r) : getS (toldD rows) (.str x) = some (.shr (tripD r)) := by
  show (lookD (.str x) (rows.map fun r => D.str r.nm) (rows.map tripD)).map SV.shr = _
  have : lookD (.str x) (rows.map fun r => D.str r.nm) (rows.map tripD) = some (tripD r) := by
    unfold rowOf at h
    induction rows with
    | nil => cases h
    | cons q rows ih =>
      rw [List.find?_cons] at h
      show (if D.str q.nm = D.str x then some (tripD q) else lookD (.str x) (rows.map fun r => D.str r.nm) (rows.map tripD)) = _
      by_cases e : q.nm = x
      · simp [e] at h ⊢
        rw [h]
      · have e2 : ¬ D.str q.nm = D.str x := fun z => e (by injection z)
        rw [if_neg e2]
        simp [e] at h
        exact ih h
  rw [this]; rfl
/-- b is such a book, whole or begun -/
structure Bk (b : D) (rows : List Rec) : Prop where
  t : fldS [8] aT b = some (.shr (toldD rows))
  d : ∀ (m : Str) (f : Nat), m ≠ aT → m ≠ aN → dispS m [(8, f)] b = some f
theorem bk_p (rows : List Rec) : Bk (pbD rows) rows := ⟨rfl, fun m f h1 h2 => by
  show (if [aT].contains m = true then none else _) = _
  rw [if_neg (by simp [h1])]; rfl⟩
theorem bk_b (rows : List Rec) : Bk (bookD rows) rows := ⟨rfl, fun m f h1 h2 => by
  show (if [aT, aN].contains m = true then none else _) = _
  rw [if_neg (by simp [h1, h2])]; rfl⟩
theorem Bk.checked {b : D} {rows : List Rec} (h : Bk b rows) (f : Nat) : dispS "checked" [(8, f)] b = some f := h.d _ _ (by decide) (by decide)
theorem Bk.size_of {b : D} {rows : List Rec} (h : Bk b rows) (f : Nat) : dispS "size_of" [(8, f)] b = some f := h.d _ _ (by decide) (by decide)
theorem Bk.parent_of {b : D} {rows : List Rec} (h : Bk b rows) (f : Nat) : dispS "parent_of" [(8, f)] b = some f := h.d _ _ (by decide) (by decide)
theorem Bk.leads_of {b : D} {rows : List Rec} (h : Bk b rows) (f : Nat) : dispS "leads_of" [(8, f)] b = some f := h.d _ _ (by decide) (by decide)
theorem Bk.chain_of {b : D} {rows : List Rec} (h : Bk b rows) (f : Nat) : dispS "chain_of" [(8, f)] b = some f := h.d _ _ (by decide) (by decide)
theorem checked_ok (n : Nat) {b : D} {rows : List Rec} (h : Bk b rows) {x : Str} (hx : x ∈ names rows) : Pr.call (n+1) F.Kindbook_checked [.val b, .val (.str x)] = .ret (.shr (.str x)) [] := by
  rw [call_Kindbook_checked]
  simp [runF, I_Kindbook_checked, h.t, in_told, hx]
theorem size_of_ok (n : Nat) {b : D} {rows : List Rec} (h : Bk b rows) {x : Str} (hx : x ∈ names rows) {r : Rec} (hr : rowOf rows x = some r) : Pr.call (n+2) F.Kindbook_size_of [.val b, .val (.str x)] = .ret (.shr (.int r.sz)) [] := by
  rw [call_Kindbook_size_of]
  have e : ∀ a b c : D, ixI [a, b, c] 0 = some a := fun _ _ _ => rfl
  simp [runF, I_Kindbook_size_of, h.t, h.checked, checked_ok n h hx, get_told rows hr, tripD, e]
theorem parent_of_ok (n : Nat) {b : D} {rows : List Rec} (h : Bk b rows) {x : Str} (hx : x ∈ names rows) {r : Rec} (hr : rowOf rows x = some r) : Pr.call (n+2) F.Kindbook_parent_of [.val b, .val (.str x)] = .ret (.shr (parD r.par)) [] := by
  rw [call_Kindbook_parent_of]
  have e : ∀ a b c : D, ixI [a, b, c] 1 = some b := fun _ _ _ => rfl
  simp [runF, I_Kindbook_parent_of, h.t, h.checked, checked_ok n h hx, get_told rows hr, tripD, e]
theorem leads_of_ok (n : Nat) {b : D} {rows : List Rec} (h : Bk b rows) {x : Str} (hx : x ∈ names rows) {r : Rec} (hr : rowOf rows x = some r) : Pr.call (n+2) F.Kindbook_leads_of [.val b, .val (.str x)] = .ret (.shr (.tup (r.lds.map .int))) [] := by
  rw [call_Kindbook_leads_of]
  have e : ∀ a b c : D, ixI [a, b, c] 2 = some c := fun _ _ _ => rfl
  simp [runF, I_Kindbook_leads_of, h.t, h.checked, checked_ok n h hx, get_told rows hr, tripD, e]
end Den
set_option Elab.async false
set_option linter.all false
set_option maxRecDepth 100000
set_option autoImplicit false
set_option maxHeartbeats 1000000
namespace Den
open PySem L2
theorem rowOf_mem {rows : List Rec} (nd : (names rows).Nodup) {q : Rec} (h : q ∈ rows) : rowOf rows q.nm = some q := by
  unfold rowOf names at *
  induction rows with
  | nil => cases h
  | cons r rows ih =>
    rw [List.map_cons, List.nodup_cons] at nd
    rw [List.find?_cons]
    rcases List.mem_cons.mp h with rfl | h
    · simp
    · have : r.nm ≠ q.nm := fun e => nd.1 (by rw [e]; exact List.mem_map.mpr ⟨q, h, rfl⟩)
      simp [this]
      exact ih nd.2 h
theorem bls_true {α : Type} (l : List α) : D.bls (l.map fun _ => D.bl true) = some (l.map fun _ => true) := by
  induction l with
  | nil => rfl
  | cons a l ih => simp [D.bls, ih]
theorem check_record_ok (n : Nat) (pre : List Rec) (r : Rec) (ok : NameOk r.nm) (new : r.nm ∉ names pre) (nd : (names pre).Nodup) (g : GoodRow pre r) :
    Pr.call (n+3) F.Kindbook__check_record [.val (pbD pre), .val (.str r.nm), .val (.int r.sz), .val (parD r.par), .val (.tup (r.lds.map .int))] = .ret (.shr .non) [] := by
  rw [call_Kindbook__check_record]
  have hb := bk_p pre
  have hc : conS [8] "MOST_SIZE" (.int 4) (pbD pre) = some (.shr (.int 4)) := rfl
  have s1 : (1 : Int) ≤ r.sz := by have := g.s1; omega
  have s2 : (r.sz : Int) ≤ 4 := by have := g.s4; omega
  have s3 := g.s1
  have s4 := g.s4
  cases hp : r.par with
  | none =>
    have hl := g.root hp
    simp [runF, I_Kindbook__check_record, check_name_ok n r.nm ok, hb.t, in_told, new, hc, s1, s2, s3, s4, parD, hl]
  | some p =>
    obtain ⟨q, qm, rfl, q1, q2⟩ := g.son p hp
    have hr := rowOf_mem nd qm
    have hx : q.nm ∈ names pre := List.mem_map.mpr ⟨q, qm, rfl⟩
    have ln : ¬ (r.lds.length : Int) = r.sz ↔ False := by rw [q1]; simp
    have l2 : r.lds.length ≤ lim := by unfold lim; omega
    simp [runF, I_Kindbook__check_record, check_name_ok n r.nm ok, hb.t, in_told, new, hc, s1, s2, s3, s4, parD, hx, q1]
    generalize hcm : compRun _ _ _ _ _ = o
    have := comp_map hcm (fun _ => D.bl true) (by simp [looksB_k]) (fun l hl => by
      have b := q2 l hl
      simp [step_k, b.1, b.2, hb.size_of, size_of_ok n hb hx hr]) l2
    subst this
    simp [bls_true]
theorem rows_go (n : Nat) (rows : List Rec) (G : Good rows) : ∀ (post pre : List Rec), rows = pre ++ post → KB.rowsGo (Pr.call (n+3)) 8 F.Kindbook__check_record (rows.map Rec.d) (post.map Rec.d) (pre.map fun r => .str r.nm) (pre.map tripD) = .ret (.shr .non) [bookD rows]
  | [], pre, e => by
    have e : rows = pre := by simpa using e
    subst e
    show OF.ret (.shr .non) [.obj 8 [aT, aN] [.dic _ _, .tup ((rows.map Rec.d).map KB.fst1)]] = _
    rw [List.map_map]
    rfl
  | r :: post, pre, e => by
    have hm : r ∈ rows := by rw [e]; simp
    have nd := G.nd
    have e2 : (names pre ++ r.nm :: names post).Nodup := by
      have := G.nd
      rw [e] at this
      simpa [names] using this
    have ndp : (names pre).Nodup := (List.nodup_append.mp e2).1
    have new : r.nm ∉ names pre := fun z => (List.nodup_append.mp e2).2.2 r.nm z r.nm List.mem_cons_self rfl
    have chk := check_record_ok n pre r (G.ok r hm) new ndp (G.rw_ pre r post e)
    have lp : pre.length ≤ 5 := by have := G.le; rw [e] at this; simp at this; omega
    have hl : r.lds.length ≤ 1000 := by
      have g := G.rw_ pre r post e
      cases hp : r.par with
      | none => rw [g.root hp]; simp
      | some p => obtain ⟨q, _, _, q1, _⟩ := g.son p hp; have := g.s4; omega
    have nk : ((pre.map fun r => D.str r.nm).any fun k => decide (k = .str r.nm)) = false := by
      have := in_told pre r.nm
      have this : some ((pre.map fun r => D.str r.nm).any fun k => decide (k = .str r.nm)) = some (decide (r.nm ∈ names pre)) := this
      injection this with this
      rw [this]
      simpa using new
    have ih := rows_go n rows G post (pre ++ [r]) (by rw [e]; simp)
    rw [List.map_cons]
    unfold Rec.d at *
    unfold KB.rowsGo
    have hs : KB.seqT (.tup (r.lds.map .int)) = some (r.lds.map .int) := rfl
    simp only [hs]
    have chk' : Pr.call (n+3) F.Kindbook__check_record [.val (KB.bk1 8 (pre.map fun r => .str r.nm) (pre.map tripD)), .val (.str r.nm), .val (.int r.sz), .val (parD r.par), .val (.tup (r.lds.map .int))] = .ret (.shr .non) [] := chk
    rw [chk']
    simp only
    rw [if_pos ⟨nk, by simp; omega, by simp; omega⟩]
    rw [List.map_append, List.map_append, List.map_singleton, List.map_singleton] at ih
    exact ih
theorem book_new (n : Nat) (rows : List Rec) (G : Good rows) : Pr.call (n+4) F.Kindbook___init__ [.bor (.obj 8 [] []), .val (.lst (rows.map Rec.d))] = .ret (.shr .non) [bookD rows] := by
  rw [call_Kindbook___init__]
  show KB.bookG 5 4 F.Kindbook__check_record 8 (Pr.call (n+3)) [.bor (.obj 8 [] []), .val (.lst (rows.map Rec.d))] = _
  unfold KB.bookG
  simp only
  have h1 : ¬ rows.map Rec.d = [] := fun z => G.ne (by simpa using z)
  have h2 : ¬ 5 < (rows.map Rec.d).length := by have := G.le; simp; omega
  rw [if_pos trivial, if_neg h1, if_neg h2]
  exact rows_go n rows G rows [] rfl
end Den
set_option Elab.async false
set_option linter.all false
set_option maxRecDepth 100000
set_option autoImplicit false
set_option maxHeartbeats 1000000
namespace Den
open PySem L2
/-! ### chains -/
def parOf (rows : List Rec) (x : Str) : Option Str := (rowOf rows x).bind Rec.par
def rank (rows : List Rec) (x : Str) : Nat := (names rows).idxOf x
def chnN (rows : List Rec) : Nat → Str → List Str
  | 0, _ => []
  | n + 1, x => x :: (match parOf rows x with | none => [] | some p => chnN rows n p)
def chain (rows : List Rec) (x : Str) : List Str := chnN rows 5 x
theorem split_row {rows : List Rec} (G : Good rows) {x : Str} (h : x ∈ names rows) : ∃ pre r post, rows = pre ++ r :: post ∧ r.nm = x ∧ rowOf rows x = some r ∧ rank rows x = pre.length ∧ GoodRow pre r := by
  obtain ⟨r, hr, hm, rfl⟩ := rowOf_some h
  obtain ⟨pre, post, e⟩ := List.append_of_mem hm
  refine ⟨pre, r, post, e, rfl, hr, ?_, G.rw_ pre r post e⟩
  have nd := G.nd
  have new : r.nm ∉ names pre := fun z => by
    rw [e] at nd
    have e2 : (names pre ++ r.nm :: names post).Nodup := by simpa [names] using nd
    exact (List.nodup_append.mp e2).2.2 r.nm z r.nm List.mem_cons_self rfl
  unfold rank
  have : names rows = names pre ++ r.nm :: names post := by rw [e]; simp [names]
  rw [this, List.idxOf_append, if_neg new, List.idxOf_cons_self]
  simp [names]
theorem rank_lt {rows : List Rec} (G : Good rows) {x : Str} (h : x ∈ names rows) : rank rows x < rows.length := by
  have := List.idxOf_lt_length_of_mem h
  simpa [rank, names] using this
theorem par_ok {rows : List Rec} (G : Good rows) {x p : Str} (h : x ∈ names rows) (hp : parOf rows x = some p) : p ∈ names rows ∧ rank rows p < rank rows x := by
  obtain ⟨pre, r, post, e, rfl, hr, hk, g⟩ := split_row G h
  have hp' : r.par = some p := by simpa [parOf, hr] using hp
  obtain ⟨q, qm, rfl, _⟩ := g.son p hp'
  have m1 : q.nm ∈ names pre := List.mem_map.mpr ⟨q, qm, rfl⟩
  have e2 : names rows = names pre ++ r.nm :: names post := by rw [e]; simp [names]
  refine ⟨by rw [e2]; exact List.mem_append_left _ m1, ?_⟩
  rw [hk]
  unfold rank
  rw [e2, List.idxOf_append, if_pos m1]
  have := List.idxOf_lt_length_of_mem m1
  simpa [names] using this
theorem chain_fuel {rows : List Rec} (G : Good rows) : ∀ (n : Nat) (x : Str), x ∈ names rows → rank rows x < n → chnN rows n x = chnN rows (n + 1) x
  | 0, x, _, h => by omega
  | n + 1, x, hx, h => by
    show x :: _ = x :: _
    congr 1
    cases hp : parOf rows x with
    | none => rfl
    | some p =>
      obtain ⟨a, b⟩ := par_ok G hx hp
      exact chain_fuel G n p a (by omega)
theorem chain_eq {rows : List Rec} (G : Good rows) {x : Str} (hx : x ∈ names rows) : chain rows x = x :: (match parOf rows x with | none => [] | some p => chain rows p) := by
  unfold chain
  show x :: _ = x :: _
  congr 1
  cases hp : parOf rows x with
  | none => rfl
  | some p =>
    obtain ⟨a, b⟩ := par_ok G hx hp
    have := rank_lt G hx
    have := G.le
    exact chain_fuel G 4 p a (by omega)
theorem chain_names {rows : List Rec} (G : Good rows) : ∀ (m : Nat) (x : Str), x ∈ names rows → rank rows x < m → ∀ k ∈ chain rows x, k ∈ names rows
  | 0, x, _, h => by omega
  | m + 1, x, hx, h => by
    intro k hk
    rw [chain_eq G hx] at hk
    rcases List.mem_cons.mp hk with rfl | hk
    · exact hx
    · cases hp : parOf rows x with
      | none => rw [hp] at hk; cases hk
      | some p =>
        rw [hp] at hk
        obtain ⟨a, b⟩ := par_ok G hx hp
        exact chain_names G m p a (by omega) k hk
theorem chain_mem {rows : List Rec} (G : Good rows) {x k : Str} (hx : x ∈ names rows) (hk : k ∈ chain rows x) : k ∈ names rows := chain_names G _ x hx (Nat.lt_succ_self _) k hk
theorem chain_rank {rows : List Rec} (G : Good rows) : ∀ (m : Nat) (x : Str), x ∈ names rows → rank rows x < m → (∀ k ∈ chain rows x, rank rows k ≤ rank rows x) ∧ (chain rows x).length ≤ rank rows x + 1
  | 0, x, _, h => by omega
  | m + 1, x, hx, h => by
    rw [chain_eq G hx]
    cases hp : parOf rows x with
    | none => simp
    | some p =>
      obtain ⟨a, b⟩ := par_ok G hx hp
      obtain ⟨i1, i2⟩ := chain_rank G m p a (by omega)
      refine ⟨fun k hk => ?_, by simp; omega⟩
      rcases List.mem_cons.mp hk with rfl | hk
      · exact Nat.le_refl _
      · have := i1 k hk; omega
theorem chain_len {rows : List Rec} (G : Good rows) {x : Str} (hx : x ∈ names rows) : (chain rows x).length ≤ 5 := by
  have := (chain_rank G _ x hx (Nat.lt_succ_self _)).2
  have := rank_lt G hx
  have := G.le
  omega
theorem chain_self {rows : List Rec} (G : Good rows) {x : Str} (hx : x ∈ names rows) : x ∈ chain rows x := by rw [chain_eq G hx]; exact List.mem_cons_self
/-! ### values led -/
def VOk (rows : List Rec) (x : Str) (i : Int) : Prop := ∃ r, rowOf rows x = some r ∧ 0 ≤ i ∧ i < r.sz
def ledN (rows : List Rec) : Nat → Str → Int → Str → Option Int
  | 0, _, _, _ => none
  | n + 1, x, i, k => if x = k then some i else match rowOf rows x with
    | some r => match r.par, ixI r.lds i with
      | some p, some j => ledN rows n p j k
      | _, _ => none
    | none => none
def led (rows : List Rec) (x : Str) (i : Int) (k : Str) : Option Int := ledN rows 5 x i k
theorem VOk.mem {rows : List Rec} {x : Str} {i : Int} (h : VOk rows x i) : x ∈ names rows := by
  obtain ⟨r, hr, _⟩ := h
  have h1 := List.find?_some hr
  exact List.mem_map.mpr ⟨r, List.mem_of_find?_eq_some hr, of_decide_eq_true h1⟩
/-- one step up -/
theorem vstep {rows : List Rec} (G : Good rows) {x : Str} {i : Int} (h : VOk rows x i) {p : Str} (hp : parOf rows x = some p) : ∃ r j, rowOf rows x = some r ∧ r.par = some p ∧ ixI r.lds i = some j ∧ VOk rows p j ∧ rank rows p < rank rows x := by
  obtain ⟨pre, r, post, e, rfl, hr, hk, g⟩ := split_row G h.mem
  obtain ⟨r', hr', i0, i1⟩ := h
  rw [hr] at hr'
  cases hr'
  have hp' : r.par = some p := by simpa [parOf, hr] using hp
  obtain ⟨q, qm, rfl, q1, q2⟩ := g.son p hp'
  obtain ⟨j, hj, jm⟩ := ixI_in (xs := r.lds) i0 (by omega)
  have qm' : q ∈ rows := by rw [e]; exact List.mem_append_left _ qm
  have b := q2 j jm
  exact ⟨r, j, hr, hp', hj, ⟨q, rowOf_mem G.nd qm', b.1, b.2⟩, (par_ok G (List.mem_map.mpr ⟨r, by rw [e]; simp, rfl⟩) hp).2⟩
theorem ledN_fuel {rows : List Rec} (G : Good rows) : ∀ (n : Nat) (x : Str) (i : Int) (k : Str), VOk rows x i → rank rows x < n → ledN rows n x i k = ledN rows (n + 1) x i k
  | 0, x, i, k, _, h => by omega
  | n + 1, x, i, k, hv, h => by
    unfold ledN
    by_cases e : x = k
    · simp [e]
    · rw [if_neg e, if_neg e]
      cases hp : parOf rows x with
      | none =>
        obtain ⟨r, hr, _⟩ := hv
        have : r.par = none := by simpa [parOf, hr] using hp
        simp [hr, this]
      | some p =>
        obtain ⟨r, j, hr, hp', hj, hv', lt⟩ := vstep G hv hp
        simp only [hr, hp', hj]
        exact ledN_fuel G n p j k hv' (by omega)
theorem led_eq {rows : List Rec} (G : Good rows) {x : Str} {i : Int} (k : Str) (hv : VOk rows x i) : led rows x i k = if x = k then some i else match rowOf rows x with
    | some r => match r.par, ixI r.lds i with
      | some p, some j => led rows p j k
      | _, _ => none
    | none => none := by
  unfold led
  show ledN rows (4 + 1) x i k = _
  unfold ledN
  by_cases e : x = k
  · simp [e]
  · rw [if_neg e, if_neg e]
    cases hp : parOf rows x with
    | none =>
      obtain ⟨r, hr, _⟩ := hv
      have : r.par = none := by simpa [parOf, hr] using hp
      simp [hr, this]
    | some p =>
      obtain ⟨r, j, hr, hp', hj, hv', lt⟩ := vstep G hv hp
      have := rank_lt G hv.mem
      have := G.le
      simp only [hr, hp', hj]
      exact ledN_fuel G 4 p j k hv' (by omega)
theorem led_some {rows : List Rec} (G : Good rows) : ∀ (m : Nat) (x : Str) (i : Int) (k : Str), VOk rows x i → rank rows x < m → (k ∈ chain rows x → ∃ j, led rows x i k = some j ∧ VOk rows k j) ∧ (k ∉ chain rows x → led rows x i k = none)
  | 0, x, i, k, _, h => by omega
  | m + 1, x, i, k, hv, h => by
    rw [led_eq G k hv, chain_eq G hv.mem]
    by_cases e : x = k
    · subst e
      simp
      exact hv
    · rw [if_neg e]
      cases hp : parOf rows x with
      | none =>
        obtain ⟨r, hr, _⟩ := hv
        have : r.par = none := by simpa [parOf, hr] using hp
        simp [hr, this, Ne.symm e]
      | some p =>
        obtain ⟨r, j, hr, hp', hj, hv', lt⟩ := vstep G hv hp
        have ih := led_some G m p j k hv' (by omega)
        simp only [hr, hp', hj]
        simp only [List.mem_cons, Ne.symm e, false_or]
        exact ih
theorem led_in {rows : List Rec} (G : Good rows) {x : Str} {i : Int} {k : Str} (hv : VOk rows x i) (hk : k ∈ chain rows x) : ∃ j, led rows x i k = some j ∧ VOk rows k j := (led_some G _ x i k hv (Nat.lt_succ_self _)).1 hk
theorem led_out {rows : List Rec} (G : Good rows) {x : Str} {i : Int} {k : Str} (hv : VOk rows x i) (hk : k ∉ chain rows x) : led rows x i k = none := (led_some G _ x i k hv (Nat.lt_succ_self _)).2 hk
theorem led_mem {rows : List Rec} (G : Good rows) {x : Str} {i j : Int} {k : Str} (hv : VOk rows x i) (h : led rows x i k = some j) : k ∈ chain rows x ∧ VOk rows k j := by
  by_cases hk : k ∈ chain rows x
  · obtain ⟨j', e, v⟩ := led_in G hv hk
    rw [h] at e
    cases e
    exact ⟨hk, v⟩
  · rw [led_out G hv hk] at h; cases h
theorem led_self {rows : List Rec} (G : Good rows) {x : Str} {i : Int} (hv : VOk rows x i) : led rows x i x = some i := by rw [led_eq G x hv, if_pos rfl]
/-- the chain of a kind in the chain -/
theorem chain_trans {rows : List Rec} (G : Good rows) : ∀ (m : Nat) (x k : Str), x ∈ names rows → rank rows x < m → k ∈ chain rows x → ∀ l ∈ chain rows k, l ∈ chain rows x
  | 0, x, k, _, h => by omega
  | m + 1, x, k, hx, h => by
    intro hk l hl
    rw [chain_eq G hx] at hk
    rcases List.mem_cons.mp hk with rfl | hk
    · exact hl
    · rw [chain_eq G hx]
      cases hp : parOf rows x with
      | none => rw [hp] at hk; cases hk
      | some p =>
        rw [hp] at hk
        obtain ⟨a, b⟩ := par_ok G hx hp
        exact List.mem_cons_of_mem _ (chain_trans G m p k a (by omega) hk l hl)
theorem chain_up {rows : List Rec} (G : Good rows) {x k l : Str} (hx : x ∈ names rows) (hk : k ∈ chain rows x) (hl : l ∈ chain rows k) : l ∈ chain rows x := chain_trans G _ x k hx (Nat.lt_succ_self _) hk l hl
/-- led on -/
theorem led_trans {rows : List Rec} (G : Good rows) : ∀ (m : Nat) (x : Str) (i j l : Int) (t k : Str), VOk rows x i → rank rows x < m → led rows x i t = some j → led rows t j k = some l → led rows x i k = some l
  | 0, x, i, j, l, t, k, _, h => by omega
  | m + 1, x, i, j, l, t, k, hv, h => by
    intro h1 h2
    by_cases e : x = t
    · subst e
      rw [led_self G hv] at h1
      cases h1
      exact h2
    · rw [led_eq G t hv, if_neg e] at h1
      cases hp : parOf rows x with
      | none =>
        obtain ⟨r, hr, _⟩ := hv
        have : r.par = none := by simpa [parOf, hr] using hp
        simp [hr, this] at h1
      | some p =>
        obtain ⟨r, q, hr, hp', hq, hv', lt⟩ := vstep G hv hp
        simp only [hr, hp', hq] at h1
        have ih := led_trans G m p q j l t k hv' (by omega) h1 h2
        by_cases e2 : x = k
        · subst e2
          -- the chain of p does not come back to x
          have c1 := (led_mem G hv' ih).1
          have := (chain_rank G _ p hv'.mem (Nat.lt_succ_self _)).1 x c1
          omega
        · rw [led_eq G k hv, if_neg e2]
          simp only [hr, hp', hq]
          exact ih
theorem led_on {rows : List Rec} (G : Good rows) {x : Str} {i j l : Int} {t k : Str} (hv : VOk rows x i) (h1 : led rows x i t = some j) (h2 : led rows t j k = some l) : led rows x i k = some l := led_trans G _ x i j l t k hv (Nat.lt_succ_self _) h1 h2
end Den
set_option Elab.async false
set_option linter.all false
set_option maxRecDepth 100000
set_option autoImplicit false
set_option maxHeartbeats 1000000
namespace Den
open PySem L2
theorem row_of_mem {rows : List Rec} {x : Str} (h : x ∈ names rows) : ∃ r, rowOf rows x = some r ∧ r.nm = x ∧ r ∈ rows := by
  obtain ⟨r, a, b, c⟩ := rowOf_some h
  exact ⟨r, a, c, b⟩
theorem parOf_row {rows : List Rec} {x : Str} {r : Rec} (h : rowOf rows x = some r) : parOf rows x = r.par := by simp [parOf, h]
theorem par_d {rows : List Rec} {x : Str} {r : Rec} (h : rowOf rows x = some r) : parD r.par = parD (parOf rows x) := by rw [parOf_row h]
def chS (b : D) (x : D) (acc : List Str) (p : Option Str) : S := ⟨[some (.shr b), some (.shr x), some (.own (.lst (acc.map .str))), some (.shr (parD p))], []⟩
theorem chain_loop (n : Nat) {b : D} {rows : List Rec} (G : Good rows) (h : Bk b rows) (x0 : D) : ∀ (k : Nat) (p : Option Str) (acc : List Str), (∀ x, p = some x → x ∈ names rows ∧ rank rows x + 1 < k) → 0 < k → acc.length + k ≤ 1000000 →
    whileRun (evT (Pr.env (n+2)) (.isN true (.var 3))) (exCs (Pr.env (n+2)) [.expr (.mut .append 2 (.cons (.var 3) .nil)), .setf 3 (.meth "parent_of" [(8, F.Kindbook_parent_of)] [false, false] (.var 0) (.cons (.var 3) .nil))]) [] k (chS b x0 acc p) = .nx (chS b x0 (acc ++ (match p with | none => [] | some x => chain rows x)) none)
  | 0, p, acc, _, h0, _ => by omega
  | k + 1, none, acc, hp, _, hl => by
    show (evT (Pr.env (n+2)) (.isN true (.var 3)) ((chS b x0 acc none).wipe [])).to _ = _
    simp [chS, parD]
    rfl
  | k + 1, some x, acc, hp, _, hl => by
    obtain ⟨hx, hk⟩ := hp x rfl
    obtain ⟨r, hr, _, _⟩ := row_of_mem hx
    have la : acc.length < lim := by unfold lim; omega
    have e1 : exCs (Pr.env (n+2)) [.expr (.mut .append 2 (.cons (.var 3) .nil)), .setf 3 (.meth "parent_of" [(8, F.Kindbook_parent_of)] [false, false] (.var 0) (.cons (.var 3) .nil))] (chS b x0 acc (some x)) = .nx (chS b x0 (acc ++ [x]) (parOf rows x)) := by
      simp [chS, parD, la, h.parent_of, parent_of_ok n h hx hr, parOf_row hr]
    have e2 : evT (Pr.env (n+2)) (.isN true (.var 3)) (chS b x0 acc (some x)) = .ok true (chS b x0 acc (some x)) := by simp [chS, parD]
    have ih := chain_loop n G h x0 k (parOf rows x) (acc ++ [x]) (fun y hy => by
      obtain ⟨a, c⟩ := par_ok G hx hy
      exact ⟨a, by omega⟩) (by omega) (by simp; omega)
    show (evT (Pr.env (n+2)) (.isN true (.var 3)) (chS b x0 acc (some x))).to _ = _
    rw [e2]
    show loopNext _ _ (exCs (Pr.env (n+2)) _ (chS b x0 acc (some x))) = _
    rw [e1, loopNext_nx, ih]
    simp only [chain_eq G hx]
    rw [List.append_assoc]
    rfl
theorem chain_of_ok (n : Nat) {b : D} {rows : List Rec} (G : Good rows) (h : Bk b rows) {x : Str} (hx : x ∈ names rows) : Pr.call (n+3) F.Kindbook_chain_of [.val b, .val (.str x)] = .ret (.own (.lst ((chain rows x).map .str))) [] := by
  rw [call_Kindbook_chain_of]
  obtain ⟨r, hr, _, _⟩ := row_of_mem hx
  have lp := chain_loop n G h (.str x) 100000 (parOf rows x) [x] (fun y hy => by
    obtain ⟨a, c⟩ := par_ok G hx hy
    have := rank_lt G hx
    have := G.le
    exact ⟨a, by omega⟩) (by omega) (by simp)
  simp only [chS, List.map_cons, List.map_nil] at lp
  have e : [x] ++ (match parOf rows x with | none => [] | some p => chain rows p) = chain rows x := by rw [chain_eq G hx]; rfl
  simp [runF, I_Kindbook_chain_of, h.checked, checked_ok (n+1) h hx, h.parent_of, parent_of_ok n h hx hr, parOf_row hr]
  rw [parOf_row hr] at lp
  rw [lp]
  rw [← parOf_row hr, e]
  simp [parD]
end Den
set_option Elab.async false
set_option linter.all false
set_option maxRecDepth 100000
set_option autoImplicit false
set_option maxHeartbeats 1000000
namespace Den
open PySem L2
theorem eqv_str (a b : Str) : D.eqv (.str a) (.str b) = decide (a = b) := by
  show PyData.eqv (.str a) (.str b) = _
  by_cases h : a = b
  · subst h; simp [PyData.eqv]
  · simp [PyData.eqv, h]
theorem any_strs (k : Str) (l : List Str) : ((l.map D.str).any fun y => D.eqv y (.str k)) = decide (k ∈ l) := by
  induction l with
  | nil => rfl
  | cons a l ih =>
    rw [List.map_cons, List.any_cons, ih, eqv_str]
    by_cases e : a = k
    · subst e; simp
    · have : ¬ k = a := fun z => e z.symm
      simp [e, this]
theorem flat_strs (l : List Str) : (l.map D.str).all D.flat = true := by
  rw [List.all_eq_true]
  intro d hd
  obtain ⟨a, _, rfl⟩ := List.mem_map.mp hd
  rfl
theorem isinL_strs (k : Str) (l : List Str) : D.isinL (.str k) (l.map .str) = some (decide (k ∈ l)) := by
  unfold D.isinL
  rw [if_pos (by rw [flat_strs]; rfl), any_strs]
theorem isin_strs (k : Str) (l : List Str) : D.isin (.str k) (l.map .str) = some (decide (k ∈ l)) := by
  unfold D.isin
  rw [if_pos (by rw [flat_strs]; rfl), any_strs]
theorem idx_strs (k : Str) : ∀ (pre post : List Str), k ∉ pre → idxS (.lst ((pre ++ k :: post).map .str)) (.str k) = some (.shr (.int (pre.length : Nat))) := by
  intro pre post hn
  have : ((pre ++ k :: post).map D.str).findIdx? (fun y => D.eqv y (.str k)) = some pre.length := by
    induction pre with
    | nil => simp [List.findIdx?_cons, eqv_str]
    | cons a pre ih =>
      simp only [List.mem_cons, not_or] at hn
      rw [List.cons_append, List.map_cons, List.findIdx?_cons, eqv_str]
      have : ¬ a = k := fun z => hn.1 z.symm
      simp only [this, decide_false]
      rw [ih hn.2]
      simp
  show (if _ then ((((pre ++ k :: post).map D.str)).findIdx? fun y => D.eqv y (.str k)).map (fun k => SV.shr (.int (k : Nat))) else none) = _
  rw [if_pos (by rw [flat_strs]; rfl), this]
  rfl
def ldS (b : D) (x i : D) (k : Str) (j : Int) (ch : List Str) (e : Option SV) : S := ⟨[some (.shr b), some (.shr (.tup [x, i])), some (.shr (.str k)), some (.shr x), some (.shr (.int j)), some (.shr (.lst (ch.map .str))), e], []⟩
/-- up to the kind -/
theorem led_loop (n : Nat) {b : D} {rows : List Rec} (G : Good rows) (h : Bk b rows) (x0 i0 : D) (k : Str) (ch : List Str) (ps : List PV) (ds : List D) (hok : ∀ j e, ((ldS b x0 i0 k j ch e).looks ps = some ds)) : ∀ (pre : List Str) (post : List Str) (x : Str) (i : Int) (e : Option SV), VOk rows x i → chain rows x = pre ++ k :: post → k ∉ pre →
    ∃ j, led rows x i k = some j ∧ VOk rows k j ∧ forRun (forStep (Pr.env (n+2)) (.nm 6) [.setf 4 (.op .ix (.cons (.meth "leads_of" [(8, F.Kindbook_leads_of)] [false, false] (.var 0) (.cons (.var 6) .nil)) (.cons (.var 4) .nil)))]) (looksB ps ds) [6] (pre.map .str) (ldS b x0 i0 k i ch e) = .nx (ldS b x0 i0 k j ch none)
  | [], post, x, i, e, hv, hc, hn => by
    rw [chain_eq G hv.mem] at hc
    have : x = k := by simpa using (List.cons.inj hc).1
    subst this
    refine ⟨i, led_self G hv, hv, ?_⟩
    rw [List.map_nil, forRun_nil, if_pos (by simp [looksB_k, hok])]
    simp [ldS]
  | y :: pre, post, x, i, e, hv, hc, hn => by
    have hc0 := hc
    rw [chain_eq G hv.mem] at hc
    obtain ⟨e1, e2⟩ := List.cons.inj hc
    subst e1
    simp only [List.mem_cons, not_or] at hn
    have nk : ¬ x = k := fun z => hn.1 z.symm
    cases hp : parOf rows x with
    | none => rw [hp] at e2; simp at e2
    | some p =>
      rw [hp] at e2
      obtain ⟨r, q, hr, hp', hq, hv', lt⟩ := vstep G hv hp
      obtain ⟨j, a1, a2, a3⟩ := led_loop n G h x0 i0 k ch ps ds hok pre post p q (some (.shr (.str x))) hv' e2 hn.2
      refine ⟨j, ?_, a2, ?_⟩
      · rw [led_eq G k hv, if_neg nk]
        simp only [hr, hp', hq]
        exact a1
      · rw [List.map_cons, forRun_cons, if_pos (by simp [looksB_k, hok])]
        have st : forStep (Pr.env (n+2)) (.nm 6) [.setf 4 (.op .ix (.cons (.meth "leads_of" [(8, F.Kindbook_leads_of)] [false, false] (.var 0) (.cons (.var 6) .nil)) (.cons (.var 4) .nil)))] ((ldS b x0 i0 k i ch e).wipe [6]) (.str x) = .nx (ldS b x0 i0 k q ch (some (.shr (.str x)))) := by
          have e9 : ixI (r.lds.map D.int) i = some (.int q) := by rw [ixI_map, hq]; rfl
          simp [ldS, fstep_k, h.leads_of, leads_of_ok n h hv.mem hr, e9]
        rw [st, loopNext_nx]
        exact a3
theorem mem_first {k : Str} : ∀ {l : List Str}, k ∈ l → ∃ pre post, l = pre ++ k :: post ∧ k ∉ pre
  | a :: l, h => by
    by_cases e : a = k
    · subst e; exact ⟨[], l, rfl, by simp⟩
    · have : k ∈ l := by
        rcases List.mem_cons.mp h with h | h
        · exact absurd h.symm e
        · exact h
      obtain ⟨pre, post, e1, e2⟩ := mem_first this
      exact ⟨a :: pre, post, by rw [e1]; rfl, by simp only [List.mem_cons, not_or]; exact ⟨fun z => e z.symm, e2⟩⟩
theorem cut_pre {α : Type} (pre post : List α) : cutG (pre ++ post) none (some (pre.length : Int)) = pre := by
  unfold cutG
  rw [HT.sIx_none, HT.sIx_nat]
  simp
def ledD (k : Str) : Option Int → D
  | none => .non
  | some j => .tup [.str k, .int j]
theorem led_ok (n : Nat) {b : D} {rows : List Rec} (G : Good rows) (h : Bk b rows) {x : Str} {i : Int} (hv : VOk rows x i) {k : Str} (hk : k ∈ names rows) (hq : k ≠ "?") : Pr.call (n+4) F.Kindbook_led [.val b, .val (.tup [.str x, .int i]), .val (.str k)] = .ret (.shr (ledD k (led rows x i k))) [] := by
  rw [call_Kindbook_led]
  by_cases hc : k ∈ chain rows x
  · obtain ⟨pre, post, e, hn⟩ := mem_first hc
    have ix := idx_strs k pre post hn
    rw [← e] at ix
    have cu : cutG ((chain rows x).map D.str) none (some ((pre.length : Nat) : Int)) = pre.map .str := by
      rw [e, List.map_append]
      have := cut_pre (pre.map D.str) ((k :: post).map D.str)
      rwa [List.length_map] at this
    simp [runF, I_Kindbook_led, h.chain_of, chain_of_ok n G h hv.mem, hq, h.checked, checked_ok (n+2) h hk, isinL_strs, hc, ix, cu]
    obtain ⟨j, a1, a2, a3⟩ := led_loop (n+1) G h (.str x) (.int i) k (chain rows x) [PV.val (.lst (pre.map .str))] [.lst (pre.map .str)] (fun j e => by rfl) pre post x i none hv e hn
    simp only [ldS] at a3
    rw [a3, a1]
    simp [ledD, lim]
  · rw [led_out G hv hc]
    simp [runF, I_Kindbook_led, h.chain_of, chain_of_ok n G h hv.mem, hq, h.checked, checked_ok (n+2) h hk, isinL_strs, hc, ledD]
theorem led_any (n : Nat) {b : D} {rows : List Rec} (G : Good rows) (h : Bk b rows) {x : Str} {i : Int} (hv : VOk rows x i) : Pr.call (n+4) F.Kindbook_led [.val b, .val (.tup [.str x, .int i]), .val (.str "?")] = .ret (.shr (.tup [.str x, .int i])) [] := by
  rw [call_Kindbook_led]
  simp [runF, I_Kindbook_led, h.chain_of, chain_of_ok n G h hv.mem, lim]
/-! ### below, members -/
theorem below_any (n : Nat) {rows : List Rec} (G : Good rows) {l : Str} (hl : l = "?" ∨ l ∈ names rows) : Pr.call (n+4) F.Kindbook_below [.val (bookD rows), .val (.str l), .val (.str "?")] = .ret (.shr (.bl true)) [] := by
  rw [call_Kindbook_below]
  have h := bk_b rows
  by_cases e : l = "?"
  · subst e
    have hn : fldS [8] "names" (bookD rows) = some (.shr (namesD rows)) := rfl
    simp [runF, I_Kindbook_below, hn]
  · have hx := hl.resolve_left e
    simp [runF, I_Kindbook_below, e, h.checked, checked_ok (n+2) h hx, lim]
theorem below_ok (n : Nat) {rows : List Rec} (G : Good rows) {l u : Str} (hl : l ∈ names rows) (hl2 : l ≠ "?") (hu : u ∈ names rows) (hu2 : u ≠ "?") : Pr.call (n+4) F.Kindbook_below [.val (bookD rows), .val (.str l), .val (.str u)] = .ret (.shr (.bl (decide (u ∈ chain rows l)))) [] := by
  rw [call_Kindbook_below]
  have h := bk_b rows
  simp [runF, I_Kindbook_below, hl2, hu2, h.checked, checked_ok (n+2) h hl, checked_ok (n+2) h hu, lim]
  generalize hc : compRun _ _ _ _ _ = o
  have := comp_map (xs := [l]) (f := D.str) hc (fun x => D.bl (decide (u ∈ chain rows x))) (by simp [looksB_k]) (fun x hx => by
    have : x = l := by simpa using hx
    subst this
    simp [step_k, h.chain_of, chain_of_ok n G h hl, isinL_strs]) (by unfold lim; simp)
  subst this
  simp [D.bls]
end Den
set_option Elab.async false
set_option linter.all false
set_option maxRecDepth 100000
set_option autoImplicit false
set_option maxHeartbeats 1000000
namespace Den
open PySem L2
def vD (x : Str) (i : Int) : D := .tup [.str x, .int i]
def szOf (rows : List Rec) (x : Str) : Nat := match rowOf rows x with | some r => r.sz | none => 0
def mem1 (rows : List Rec) (x : Str) : List D := (List.range (szOf rows x)).map fun i : Nat => vD x i
def members (rows : List Rec) (k : Str) : List D := (if k = "?" then names rows else [k]).flatMap (mem1 rows)
theorem szOf_le {rows : List Rec} (G : Good rows) {x : Str} (hx : x ∈ names rows) : ∃ r, rowOf rows x = some r ∧ szOf rows x = r.sz ∧ 1 ≤ r.sz ∧ r.sz ≤ 4 := by
  obtain ⟨pre, r, post, e, hn, hr, hk, g⟩ := split_row G hx
  exact ⟨r, hr, by simp [szOf, hr], g.s1, g.s4⟩
theorem mem1_len {rows : List Rec} (G : Good rows) {x : Str} (hx : x ∈ names rows) : (mem1 rows x).length ≤ 4 := by
  obtain ⟨r, _, e, _, h⟩ := szOf_le G hx
  simp [mem1, e, h]
theorem flat_len {rows : List Rec} (G : Good rows) : ∀ (l : List Str), (∀ x ∈ l, x ∈ names rows) → (l.flatMap (mem1 rows)).length ≤ 4 * l.length
  | [], _ => by simp
  | x :: l, h => by
    rw [List.flatMap_cons, List.length_append]
    have a := mem1_len G (h x List.mem_cons_self)
    have b := flat_len G l fun y hy => h y (List.mem_cons_of_mem _ hy)
    simp only [List.length_cons]
    omega
theorem names_len (rows : List Rec) : (names rows).length = rows.length := by simp [names]
theorem members_ok (n : Nat) {rows : List Rec} (G : Good rows) {k : Str} (hk : k = "?" ∨ k ∈ names rows) : Pr.call (n+3) F.Kindbook_members [.val (bookD rows), .val (.str k)] = .ret (.own (.lst (members rows k))) [] := by
  rw [call_Kindbook_members]
  have h := bk_b rows
  have key : ∀ (l : List Str) (o : Out (List D)), (∀ x ∈ l, x ∈ names rows) → l.length ≤ 5 → ∀ (s : S) (nd : D), nd = .tup (l.map .str) → s = ⟨[some (.shr (bookD rows)), some (.shr (.str k)), some (.shr nd), none, none], []⟩ →
      foldRun (comp2Step (Pr.env (n+2)) [3, 4] [4] (.nm 3) .tru (.nm 4) (.rng (.meth "size_of" [(8, F.Kindbook_size_of)] [false, false] (.var 0) (.cons (.var 3) .nil))) .tru (.tup (.cons (.var 3) (.cons (.var 4) .nil)))) (looksB [.at 2] [nd]) (l.map .str) [] s = o → o = .ok (l.flatMap (mem1 rows)) s := by
    intro l o hm hl s nd hn hs hf
    have fl := flat_len G l hm
    refine fold_map hf (mem1 rows) (by subst hs; simp [looksB_k]) (by unfold lim; omega) (fun x hx acc ha => ?_)
    obtain ⟨r, hr, e1, r1, r2⟩ := szOf_le G (hm x hx)
    have z1 : (r.sz : Int) < 4611686018427387904 := by omega
    have z2 : (-4611686018427387904 : Int) ≤ r.sz := by omega
    have z3 : r.sz < 4611686018427387904 := by omega
    have hg : mem1 rows x = (List.range r.sz).map fun i : Nat => vD x i := by unfold mem1; rw [e1]
    rw [hg] at ha ⊢
    subst hs
    simp [step2_k, h.size_of, size_of_ok n h (hm x hx) hr, z1, z2, z3]
    rw [comp_acc (fun i : Nat => vD x i) (by simp [looksB_k]) _ _ ha (fun i hi => by simp [step_k, lim, vD])]
    simp
  by_cases hq : k = "?"
  · subst hq
    have hn : fldS [8] "names" (bookD rows) = some (.shr (namesD rows)) := rfl
    have hnd : namesD rows = .tup ((names rows).map .str) := by unfold namesD names; rw [List.map_map]; rfl
    simp [runF, I_Kindbook_members, hn]
    rw [hnd]
    simp
    generalize hf : foldRun _ _ _ _ _ = o
    have := key (names rows) o (fun x hx => hx) (by rw [names_len]; exact G.le) _ _ rfl rfl hf
    subst this
    simp [members]
  · have hx := hk.resolve_left hq
    simp [runF, I_Kindbook_members, hq, h.checked, checked_ok (n+1) h hx, lim]
    generalize hf : foldRun _ _ _ _ _ = o
    have := key [k] o (fun x hx' => by rw [List.mem_singleton.mp hx']; exact hx) (by simp) _ _ rfl rfl hf
    subst this
    simp [members, hq]
end Den
set_option Elab.async false
set_option linter.all false
set_option maxRecDepth 100000
set_option autoImplicit false
set_option maxHeartbeats 1000000
namespace Den
open PySem L2
def rowsD (rows : List Rec) : D := .lst (rows.map Rec.d)
theorem ix0 (a b c d : D) : ixI [a, b, c, d] 0 = some a := rfl
theorem ix1 (a b c d : D) : ixI [a, b, c, d] 1 = some b := rfl
theorem ix2 (a b c d : D) : ixI [a, b, c, d] 2 = some c := rfl
theorem ix3 (a b c d : D) : ixI [a, b, c, d] 3 = some d := rfl
theorem ix20 (a b : D) : ixI [a, b] 0 = some a := rfl
theorem ix21 (a b : D) : ixI [a, b] 1 = some b := rfl
theorem row_ok (n : Nat) {rows : List Rec} {x : Str} {r : Rec} (hr : rowOf rows x = some r) : Pr.call (n+1) F.L_row [.val (rowsD rows), .val (.str x)] = .ret (.shr r.d) [] := by
  rw [call_L_row]
  simp [runF, I_L_row, rowsD]
  generalize hf : forRun _ _ _ _ _ = o
  have := for_find hf (fun r => decide (r.nm = x)) (fun r => .shr r.d) (by simp [looksB_k]) (by simp) (fun r hm ht => by
    have : ¬ r.nm = x := by simpa using ht
    refine ⟨⟨[some (.shr (.lst (rows.map Rec.d))), some (.shr (.str x)), some (.shr r.d)], []⟩, ?_, by simp, by simp [looksB_k]⟩
    simp [fstep_k, Rec.d, ix0, this]) (fun r hm ht => by
    have : r.nm = x := by simpa using ht
    refine ⟨⟨[some (.shr (.lst (rows.map Rec.d))), some (.shr (.str x)), some (.shr r.d)], []⟩, ?_, rfl⟩
    simp [fstep_k, Rec.d, ix0, this])
  rcases this with ⟨a, b⟩ | ⟨r', a, s', b, c⟩
  · unfold rowOf at hr
    rw [a] at hr; cases hr
  · unfold rowOf at hr
    rw [a] at hr
    cases hr
    subst b
    have c : s'.bs = [] := c
    simp [c]
theorem lchain_ok (n : Nat) {rows : List Rec} (G : Good rows) {x : Str} (hx : x ∈ names rows) : Pr.call (n+2) F.L_chain [.val (rowsD rows), .val (.str x)] = .ret (.own (.lst ((chain rows x).map .str))) [] := by
  rw [call_L_chain]
  have le := G.le
  have z1 : (rows.length : Int) < 4611686018427387904 := by omega
  have z2 : (-4611686018427387904 : Int) ≤ rows.length := by omega
  have z3 : rows.length < 4611686018427387904 := by omega
  simp [runF, I_L_chain, rowsD, z1, z2, z3]
  generalize hf : forRun _ _ _ _ _ = o
  have := for_thru hf (fun pre s => ∃ (acc : List Str) (p : Option Str) (e : Option SV), acc ++ (match p with | none => [] | some y => chain rows y) = chain rows x ∧ (∀ y, p = some y → y ∈ names rows ∧ rank rows y + pre.length ≤ rank rows x) ∧ acc.length ≤ pre.length ∧ pre.length ≤ 5 ∧ s = ⟨[some (.shr (.lst (rows.map Rec.d))), some (.shr (parD p)), some (.own (.lst (acc.map .str))), e], []⟩)
    ⟨[], some x, none, rfl, fun y hy => by cases hy; exact ⟨hx, Nat.le_refl _⟩, Nat.le_refl _, Nat.zero_le _, rfl⟩ (fun pre s ⟨acc, p, e, _, _, _, _, h⟩ => by subst h; simp [looksB_k]) (fun pre j post s hj ⟨acc, p, e, q1, q2, q3, q4, h⟩ => by
      subst h
      obtain ⟨rfl, hlt⟩ := range_split hj
      cases p with
      | none =>
        refine ⟨_, by simp [fstep_k, parD], acc, none, some (.shr (.int pre.length)), q1, fun y hy => (by cases hy), by simp; omega, by simp; omega, rfl⟩
      | some y =>
        obtain ⟨hy, hr⟩ := q2 y rfl
        obtain ⟨r, hrow, rn, rm⟩ := row_of_mem hy
        have rw1 := row_ok n hrow
        unfold rowsD at rw1
        have la : acc.length < lim := by unfold lim; omega
        have rd : r.d = .tup [.str r.nm, .int r.sz, parD r.par, .tup (r.lds.map .int)] := rfl
        refine ⟨⟨[some (.shr (.lst (rows.map Rec.d))), some (.shr (parD r.par)), some (.own (.lst ((acc ++ [y]).map .str))), some (.shr (.int pre.length))], []⟩, by simp [fstep_k, parD, rw1, rd, ix2, la], acc ++ [y], r.par, some (.shr (.int pre.length)), ?_, fun z hz => ?_, by simp; omega, by simp; omega, rfl⟩
        · rw [← q1]
          show acc ++ [y] ++ _ = acc ++ chain rows y
          rw [chain_eq G hy, parOf_row hrow]
          cases r.par <;> simp
        · obtain ⟨a, b⟩ := par_ok G hy (p := z) (by rw [parOf_row hrow]; exact hz)
          exact ⟨a, by simp; omega⟩)
  obtain ⟨s', rfl, acc, p, e, q1, q2, q3, q4, rfl⟩ := this
  have : p = none := by
    cases p with
    | none => rfl
    | some y =>
      obtain ⟨a, b⟩ := q2 y rfl
      have := rank_lt G hx
      simp at b
      omega
  subst this
  have q1 : acc = chain rows x := by simpa using q1
  subst q1
  simp
/-- a value on its way -/
def ovD : Option (Str × Int) → D
  | none => .non
  | some (y, i) => vD y i
abbrev ldBody : List C := match I_L_led.body with
  | [_, .for _ _ b _, _] => b
  | _ => []
def llS (rows : List Rec) (v : Option (Str × Int)) (k : Str) (e f : Option SV) : S := ⟨[some (.shr (.lst (rows.map Rec.d))), some (.shr (ovD v)), some (.shr (.str k)), e, f], []⟩
theorem lled_step (n : Nat) {rows : List Rec} (G : Good rows) (k : Str) (j : Int) (v : Option (Str × Int)) (hv : ∀ y i, v = some (y, i) → VOk rows y i) : ∃ (v' : Option (Str × Int)) (e f : Option SV), forStep (Pr.env (n+1)) (.nm 3) ldBody (llS rows v k none none) (.int j) = .nx (llS rows v' k e f) ∧
    (∀ y i, v' = some (y, i) → VOk rows y i) ∧ (∀ x0 i0, (match v with | none => led rows x0 i0 k = none | some (y, i) => led rows y i k = led rows x0 i0 k) → (match v' with | none => led rows x0 i0 k = none | some (y, i) => led rows y i k = led rows x0 i0 k)) ∧
    (∀ m, (∀ y i, v = some (y, i) → y = k ∨ rank rows y + j ≤ m) → ∀ y i, v' = some (y, i) → y = k ∨ rank rows y + (j + 1) ≤ m) := by
  cases v with
  | none =>
    refine ⟨none, some (.shr (.int j)), none, ?_, fun y i h => (by cases h), fun x0 i0 h => h, fun m h y i e => (by cases e)⟩
    simp [llS, fstep_k, ldBody, I_L_led, ovD]
  | some w =>
    obtain ⟨y, i⟩ := w
    have hv := hv y i rfl
    by_cases e : y = k
    · subst e
      refine ⟨some (y, i), some (.shr (.int j)), none, ?_, fun z l h => by cases h; exact hv, fun x0 i0 h => h, fun m h z l e => by cases e; exact .inl rfl⟩
      simp [llS, fstep_k, ldBody, I_L_led, ovD, vD, ix20]
    · obtain ⟨r, hrow, rn, rm⟩ := row_of_mem hv.mem
      have rw1 := row_ok n hrow
      unfold rowsD at rw1
      have rd : r.d = .tup [.str r.nm, .int r.sz, parD r.par, .tup (r.lds.map .int)] := rfl
      cases hp : r.par with
      | none =>
        refine ⟨none, some (.shr (.int j)), some (.shr r.d), ?_, fun z l h => (by cases h), fun x0 i0 h => ?_, fun m h z l e => (by cases e)⟩
        · simp [llS, fstep_k, ldBody, I_L_led, ovD, vD, ix20, e, rw1, rd, ix2, hp, parD]
        · have h : led rows y i k = led rows x0 i0 k := h
          show led rows x0 i0 k = none
          rw [← h, led_eq G k hv, if_neg e]
          simp [hrow, hp]
      | some p =>
        obtain ⟨r', q, hr', hp', hq, hv', lt⟩ := vstep G hv (p := p) (by rw [parOf_row hrow]; exact hp)
        rw [hrow] at hr'
        cases hr'
        have hq' : ixI (r.lds.map D.int) i = some (.int q) := by rw [ixI_map, hq]; rfl
        refine ⟨some (p, q), some (.shr (.int j)), some (.shr r.d), ?_, fun z l h => by cases h; exact hv', fun x0 i0 h => ?_, fun m h z l e2 => ?_⟩
        · simp [llS, fstep_k, ldBody, I_L_led, ovD, vD, ix20, ix21, e, rw1, rd, ix2, ix3, hp, parD, hq', lim]
        · have h : led rows y i k = led rows x0 i0 k := h
          show led rows p q k = led rows x0 i0 k
          rw [← h, led_eq G k hv, if_neg e]
          simp [hrow, hp, hq]
        · cases e2
          rcases h y i rfl with h | h
          · exact absurd h e
          · exact .inr (by omega)
theorem lled_ok (n : Nat) {rows : List Rec} (G : Good rows) {x : Str} {i : Int} (hv : VOk rows x i) {k : Str} (hq : k ≠ "?") : Pr.call (n+2) F.L_led [.val (rowsD rows), .val (vD x i), .val (.str k)] = .ret (.shr (ledD k (led rows x i k))) [] := by
  rw [call_L_led]
  have le := G.le
  have z1 : (rows.length : Int) < 4611686018427387904 := by omega
  have z2 : (-4611686018427387904 : Int) ≤ rows.length := by omega
  have z3 : rows.length < 4611686018427387904 := by omega
  simp [runF, I_L_led, rowsD, z1, z2, z3, hq]
  generalize hf : forRun _ _ _ _ _ = o
  have := for_thru hf (fun pre s => ∃ (v : Option (Str × Int)) (e f : Option SV), (∀ y i, v = some (y, i) → VOk rows y i) ∧ (match v with | none => led rows x i k = none | some (y, l) => led rows y l k = led rows x i k) ∧ (∀ y l, v = some (y, l) → y = k ∨ (rank rows y : Int) + (pre.length : Nat) ≤ rank rows x) ∧ s = ⟨[some (.shr (.lst (rows.map Rec.d))), some (.shr (ovD v)), some (.shr (.str k)), e, f], []⟩)
    ⟨some (x, i), none, none, fun y l h => (by cases h; exact hv), rfl, fun y l h => (by cases h; exact .inr (by simp)), rfl⟩ (fun pre s ⟨v, e, f, _, _, _, h⟩ => by subst h; simp [looksB_k]) (fun pre j post s hj ⟨v, e, f, q1, q2, q3, h⟩ => by
      subst h
      obtain ⟨rfl, hlt⟩ := range_split hj
      obtain ⟨v', e', f', st, a1, a2, a3⟩ := lled_step n G k (pre.length : Nat) v q1
      refine ⟨_, st, v', e', f', a1, a2 x i q2, fun y l hy => ?_, rfl⟩
      have := a3 (rank rows x) q3 y l hy
      simpa using this)
  obtain ⟨s', rfl, v, e, f, q1, q2, q3, rfl⟩ := this
  cases v with
  | none =>
    have q2 : led rows x i k = none := q2
    rw [q2]
    simp [ovD, ledD]
  | some w =>
    obtain ⟨y, l⟩ := w
    have hy : y = k := by
      rcases q3 y l rfl with h | h
      · exact h
      · have := rank_lt G hv.mem
        simp at h
        omega
    subst hy
    have q2 : led rows y l y = led rows x i y := q2
    rw [← q2, led_self G (q1 y l rfl)]
    simp [ovD, ledD, vD]
theorem lled_any (n : Nat) {rows : List Rec} (v : D) : Pr.call (n+2) F.L_led [.val (rowsD rows), .val v, .val (.str "?")] = .ret (.shr v) [] := by
  rw [call_L_led]
  simp [runF, I_L_led, rowsD]
end Den
set_option Elab.async false
set_option linter.all false
set_option maxRecDepth 100000
set_option autoImplicit false
set_option maxHeartbeats 1000000
namespace Den
open PySem L2
def memR (r : Rec) : List D := (List.range r.sz).map fun i : Nat => vD r.nm i
theorem memR_eq {rows : List Rec} (G : Good rows) {r : Rec} (h : r ∈ rows) : mem1 rows r.nm = memR r := by
  unfold mem1 memR szOf
  rw [rowOf_mem G.nd h]
def lmem (k : Str) (r : Rec) : List D := if k = "?" ∨ k = r.nm then memR r else []
theorem lmem_all {rows : List Rec} (G : Good rows) : rows.flatMap (lmem "?") = members rows "?" := by
  unfold members names
  rw [if_pos rfl, List.flatMap_map]
  have : ∀ l : List Rec, (∀ r ∈ l, r ∈ rows) → l.flatMap (lmem "?") = l.flatMap fun r => mem1 rows r.nm := by
    intro l
    induction l with
    | nil => intro _; rfl
    | cons a l ih =>
      intro h
      rw [List.flatMap_cons, List.flatMap_cons, ih fun r hr => h r (List.mem_cons_of_mem _ hr), memR_eq G (h a List.mem_cons_self)]
      simp [lmem]
  exact this rows fun _ h => h
theorem lmem_one {rows : List Rec} (G : Good rows) {k : Str} (hk : k ∈ names rows) (hq : k ≠ "?") : rows.flatMap (lmem k) = members rows k := by
  unfold members
  rw [if_neg hq]
  obtain ⟨r, hr, hn, hm⟩ := row_of_mem hk
  subst hn
  rw [List.flatMap_singleton, memR_eq G hm]
  have : ∀ l : List Rec, (l.map Rec.nm).Nodup → r ∈ l → l.flatMap (lmem r.nm) = memR r := by
    intro l
    induction l with
    | nil => intro _ h; cases h
    | cons a l ih =>
      intro nd h
      rw [List.map_cons, List.nodup_cons] at nd
      rw [List.flatMap_cons]
      have none : ∀ l' : List Rec, r.nm ∉ l'.map Rec.nm → l'.flatMap (lmem r.nm) = [] := by
        intro l' hl
        rw [List.flatMap_eq_nil_iff]
        intro b hb
        have : ¬ r.nm = b.nm := fun e => hl (by rw [e]; exact List.mem_map.mpr ⟨b, hb, rfl⟩)
        simp [lmem, hq, this]
      rcases List.mem_cons.mp h with rfl | h
      · rw [none l nd.1]; simp [lmem]
      · have : ¬ r.nm = a.nm := fun e => nd.1 (by rw [← e]; exact List.mem_map.mpr ⟨r, h, rfl⟩)
        rw [ih nd.2 h]
        simp [lmem, hq, this]
  exact this rows G.nd hm
theorem lmembers_go (n : Nat) {rows : List Rec} (G : Good rows) (k : Str) : Pr.call (n+1) F.L_members [.val (rowsD rows), .val (.str k)] = .ret (.own (.lst (rows.flatMap (lmem k)))) [] := by
  rw [call_L_members]
  simp [runF, I_L_members, rowsD]
  generalize hf : forRun _ _ _ _ _ = o
  have := for_thru hf (fun pre s => ∃ (acc : List D) (e : Option SV), acc = pre.flatMap (lmem k) ∧ acc.length ≤ 4 * pre.length ∧ pre.length ≤ 5 ∧ s = ⟨[some (.shr (.lst (rows.map Rec.d))), some (.shr (.str k)), some (.own (.lst acc)), e, none], []⟩)
    ⟨[], none, rfl, by simp, by simp, rfl⟩ (fun pre s ⟨acc, e, _, _, _, h⟩ => by subst h; simp [looksB_k]) (fun pre r post s hr ⟨acc, e, q1, q2, q3, h⟩ => by
      subst h
      have hm : r ∈ rows := by rw [hr]; simp
      have hl : pre.length + 1 ≤ 5 := by have := G.le; rw [hr] at this; simp at this; omega
      have g := G.rw_ pre r post hr
      have s4 := g.s4
      have z1 : (r.sz : Int) < 4611686018427387904 := by omega
      have z2 : (-4611686018427387904 : Int) ≤ r.sz := by omega
      have z3 : r.sz < 4611686018427387904 := by omega
      have rd : r.d = .tup [.str r.nm, .int r.sz, parD r.par, .tup (r.lds.map .int)] := rfl
      by_cases hc : k = "?" ∨ k = r.nm
      · have hl2 : acc.length + r.sz ≤ lim := by unfold lim; omega
        have el : lmem k r = memR r := by unfold lmem; rw [if_pos hc]
        refine ⟨⟨[some (.shr (.lst (rows.map Rec.d))), some (.shr (.str k)), some (.own (.lst (acc ++ memR r))), some (.shr r.d), none], []⟩, ?_, acc ++ memR r, some (.shr r.d), by rw [q1, List.flatMap_append, List.flatMap_singleton, el], by simp [memR]; omega, by simp; omega, rfl⟩
        have go : ∀ (o : Out (List D)), compRun (compStep (Pr.env n) [4] (.nm 4) .tru (.tup (.cons (.op .ix (.cons (.var 3) (.cons (.int 0) .nil))) (.cons (.var 4) .nil)))) (looksB [.val (.int r.sz)] [.int r.sz]) ((List.range r.sz).map fun k : Nat => D.int k) [] ⟨[some (.shr (.lst (rows.map Rec.d))), some (.shr (.str k)), some (.own (.lst acc)), some (.shr r.d), none], []⟩ = o → o = .ok (memR r) ⟨[some (.shr (.lst (rows.map Rec.d))), some (.shr (.str k)), some (.own (.lst acc)), some (.shr r.d), none], []⟩ := fun o ho =>
          comp_map ho (fun i : Nat => vD r.nm i) (by simp [looksB_k]) (fun i hi => by simp [step_k, rd, ix0, lim, vD]) (by simp; unfold lim; omega)
        have lm : acc.length + (memR r).length ≤ lim := by unfold memR; simpa using hl2
        by_cases c1 : k = "?"
        · simp [fstep_k, c1, rd, ix1, z1, z2, z3]
          rw [← rd, ← c1]
          generalize ho : compRun _ _ _ _ _ = o
          have := go o ho
          subst this
          simp [lm]
        · have c2 := hc.resolve_left c1
          subst c2
          simp [fstep_k, c1, rd, ix1, ix0, z1, z2, z3]
          rw [← rd]
          generalize ho : compRun _ _ _ _ _ = o
          have := go o ho
          subst this
          simp [lm]
      · have el : lmem k r = [] := by unfold lmem; rw [if_neg hc]
        have c1 : ¬ k = "?" := fun z => hc (.inl z)
        have c2 : ¬ k = r.nm := fun z => hc (.inr z)
        refine ⟨⟨[some (.shr (.lst (rows.map Rec.d))), some (.shr (.str k)), some (.own (.lst acc)), some (.shr r.d), none], []⟩, ?_, acc, some (.shr r.d), by rw [q1, List.flatMap_append, List.flatMap_singleton, el, List.append_nil], by simp; omega, by simp; omega, rfl⟩
        simp [fstep_k, c1, c2, rd, ix0])
  obtain ⟨s', rfl, acc, e, q1, q2, q3, rfl⟩ := this
  subst q1
  simp
theorem lmembers_ok (n : Nat) {rows : List Rec} (G : Good rows) {k : Str} (hk : k = "?" ∨ k ∈ names rows) : Pr.call (n+1) F.L_members [.val (rowsD rows), .val (.str k)] = .ret (.own (.lst (members rows k))) [] := by
  rw [lmembers_go n G k]
  by_cases e : k = "?"
  · subst e; rw [lmem_all G]
  · rw [lmem_one G (hk.resolve_left e) e]
end Den
set_option Elab.async false
set_option linter.all false
set_option maxRecDepth 100000
set_option autoImplicit false
set_option maxHeartbeats 1000000
namespace Den
open PySem L2
/-! ### passages -/
structure Ps where
  gate : Option Str
  gs : Nat
  reached : Option Str
  fail : Nat
def passD (rows : List Rec) (s e : Str) (b : Nat) (P : Ps) : D :=
  .obj 9 ["book", "start_kind", "end_kind", "borders", "gate", "gate_stage", "reached", "fail_stage"] [bookD rows, .str s, .str e, .int b, parD P.gate, .int P.gs, parD P.reached, .int P.fail]
section
variable {rows : List Rec} {s e : Str} {b : Nat} {P : Ps}
theorem pf_book : fldS [9] "book" (passD rows s e b P) = some (.shr (bookD rows)) := rfl
theorem pf_start : fldS [9] "start_kind" (passD rows s e b P) = some (.shr (.str s)) := rfl
theorem pf_end : fldS [9] "end_kind" (passD rows s e b P) = some (.shr (.str e)) := rfl
theorem pf_borders : fldS [9] "borders" (passD rows s e b P) = some (.shr (.int b)) := rfl
theorem pf_gate : fldS [9] "gate" (passD rows s e b P) = some (.shr (parD P.gate)) := rfl
theorem pf_gs : fldS [9] "gate_stage" (passD rows s e b P) = some (.shr (.int P.gs)) := rfl
theorem pf_reached : fldS [9] "reached" (passD rows s e b P) = some (.shr (parD P.reached)) := rfl
theorem pf_fail : fldS [9] "fail_stage" (passD rows s e b P) = some (.shr (.int P.fail)) := rfl
theorem pd_stage (f : Nat) : dispS "stage" [(9, f)] (passD rows s e b P) = some f := rfl
theorem pd_lead (f : Nat) : dispS "lead" [(9, f)] (passD rows s e b P) = some f := rfl
theorem pd_passing (f : Nat) : dispS "passing" [(9, f)] (passD rows s e b P) = some f := rfl
theorem pd_then (f : Nat) : dispS "then" [(9, f)] (passD rows s e b P) = some f := rfl
theorem pd_joined (f : Nat) : dispS "_joined_parts" [(9, f)] (passD rows s e b P) = some f := rfl
theorem pd_behind (f : Nat) : dispS "_stage_behind" [(9, f)] (passD rows s e b P) = some f := rfl
theorem bd_led (f : Nat) : dispS "led" [(8, f)] (bookD rows) = some f := rfl
theorem bd_below (f : Nat) : dispS "below" [(8, f)] (bookD rows) = some f := rfl
theorem bd_members (f : Nat) : dispS "members" [(8, f)] (bookD rows) = some f := rfl
theorem bd_checked (f : Nat) : dispS "checked" [(8, f)] (bookD rows) = some f := rfl
end
theorem pass_init (n : Nat) (a1 a2 a3 a4 a5 a6 a7 a8 : D) : Pr.call (n+1) F.Passage___init__ [.bor (.obj 9 [] []), .val a1, .val a2, .val a3, .val a4, .val a5, .val a6, .val a7, .val a8] = .ret (.shr .non) [.obj 9 ["book", "start_kind", "end_kind", "borders", "gate", "gate_stage", "reached", "fail_stage"] [a1, a2, a3, a4, a5, a6, a7, a8]] := by
  rw [call_Passage___init__]
  have e1 : sfS 9 "book" a1 (.obj 9 [] []) = some (.obj 9 ["book"] [a1]) := rfl
  have e2 : sfS 9 "start_kind" a2 (.obj 9 ["book"] [a1]) = some (.obj 9 ["book", "start_kind"] [a1, a2]) := rfl
  have e3 : sfS 9 "end_kind" a3 (.obj 9 ["book", "start_kind"] [a1, a2]) = some (.obj 9 ["book", "start_kind", "end_kind"] [a1, a2, a3]) := rfl
  have e4 : sfS 9 "borders" a4 (.obj 9 ["book", "start_kind", "end_kind"] [a1, a2, a3]) = some (.obj 9 ["book", "start_kind", "end_kind", "borders"] [a1, a2, a3, a4]) := rfl
  have e5 : sfS 9 "gate" a5 (.obj 9 ["book", "start_kind", "end_kind", "borders"] [a1, a2, a3, a4]) = some (.obj 9 ["book", "start_kind", "end_kind", "borders", "gate"] [a1, a2, a3, a4, a5]) := rfl
  have e6 : sfS 9 "gate_stage" a6 (.obj 9 ["book", "start_kind", "end_kind", "borders", "gate"] [a1, a2, a3, a4, a5]) = some (.obj 9 ["book", "start_kind", "end_kind", "borders", "gate", "gate_stage"] [a1, a2, a3, a4, a5, a6]) := rfl
  have e7 : sfS 9 "reached" a7 (.obj 9 ["book", "start_kind", "end_kind", "borders", "gate", "gate_stage"] [a1, a2, a3, a4, a5, a6]) = some (.obj 9 ["book", "start_kind", "end_kind", "borders", "gate", "gate_stage", "reached"] [a1, a2, a3, a4, a5, a6, a7]) := rfl
  have e8 : sfS 9 "fail_stage" a8 (.obj 9 ["book", "start_kind", "end_kind", "borders", "gate", "gate_stage", "reached"] [a1, a2, a3, a4, a5, a6, a7]) = some (.obj 9 ["book", "start_kind", "end_kind", "borders", "gate", "gate_stage", "reached", "fail_stage"] [a1, a2, a3, a4, a5, a6, a7, a8]) := rfl
  simp [runF, I_Passage___init__, -sfS_s0, e1, e2, e3, e4, e5, e6, e7, e8]
def KOk (rows : List Rec) (k : Str) : Prop := k = "?" ∨ k ∈ names rows
theorem name_ne {rows : List Rec} (G : Good rows) {k : Str} (h : k ∈ names rows) : k ≠ "?" := by
  obtain ⟨r, hr, rfl⟩ := List.mem_map.mp h
  exact (G.ok r hr).ne
theorem check_kinds_go (n : Nat) {rows : List Rec} (G : Good rows) (ks : List Str) (hk : ∀ k ∈ ks, KOk rows k) (d : D) (hd : d = .lst (ks.map .str) ∨ d = .tup (ks.map .str)) : Pr.call (n+2) F.check_kinds [.val (bookD rows), .val d] = .ret (.shr .non) [] := by
  rw [call_check_kinds]
  have go : ∀ (ps : List PV) (ds : List D) (o : O), (∀ e, (⟨[some (.shr (bookD rows)), some (.shr d), e], []⟩ : S).looks ps = some ds) → forRun (forStep (Pr.env (n+1)) (.nm 2) [.iff (.cmp .ne (.var 2) (.glo "UNKNOWN" (.str "?"))) [.expr (.meth "checked" [(8, F.Kindbook_checked)] [false, false] (.var 0) (.cons (.var 2) .nil))] [] []]) (looksB ps ds) [2] (ks.map .str) ⟨[some (.shr (bookD rows)), some (.shr d), none], []⟩ = o → o = .nx ⟨[some (.shr (bookD rows)), some (.shr d), none], []⟩ := by
    intro ps ds o hl hf
    obtain ⟨s', rfl, e, rfl⟩ := for_thru hf (fun pre s => ∃ e : Option SV, s = ⟨[some (.shr (bookD rows)), some (.shr d), e], []⟩) ⟨none, rfl⟩ (fun pre s ⟨e, h⟩ => by subst h; simp [looksB_k, hl]) (fun pre k post s hx ⟨e, h⟩ => by
      subst h
      have hm := hk k (by rw [hx]; simp)
      refine ⟨⟨[some (.shr (bookD rows)), some (.shr d), some (.shr (.str k))], []⟩, ?_, _, rfl⟩
      by_cases e : k = "?"
      · simp [fstep_k, e]
      · simp [fstep_k, e, bd_checked, checked_ok n (bk_b rows) (hm.resolve_left e)])
    simp
  rcases hd with rfl | rfl
  · simp [runF, I_check_kinds]
    generalize hf : forRun _ _ _ _ _ = o
    have := go _ _ o (fun e => by rfl) hf
    subst this
    simp
  · simp [runF, I_check_kinds]
    generalize hf : forRun _ _ _ _ _ = o
    have := go _ _ o (fun e => by rfl) hf
    subst this
    simp
end Den
set_option Elab.async false
set_option linter.all false
set_option maxRecDepth 100000
set_option autoImplicit false
set_option maxHeartbeats 1000000
namespace Den
open PySem L2
theorem zip_strs (as bs : List Str) : (((as.map D.str).zip (bs.map D.str)).map fun p => D.tup [p.1, p.2]) = (as.zip bs).map fun p => D.tup [.str p.1, .str p.2] := by
  rw [List.zip_map, List.map_map]; rfl
theorem zip_mem {as bs : List Str} {p : Str × Str} (h : p ∈ as.zip bs) : p.1 ∈ as ∧ p.2 ∈ bs := ⟨(List.of_mem_zip h).1, (List.of_mem_zip h).2⟩
theorem check_border_go (n : Nat) {rows : List Rec} (G : Good rows) (as bs : List Str) (ha : ∀ k ∈ as, KOk rows k) (hb : ∀ k ∈ bs, KOk rows k) (hz : ∀ p ∈ as.zip bs, p.1 = "?" ∨ p.2 = "?" ∨ p.2 ∈ chain rows p.1) (d1 d2 : D) (hd : (d1 = .lst (as.map .str) ∧ d2 = .lst (bs.map .str)) ∨ (d1 = .tup (as.map .str) ∧ d2 = .tup (bs.map .str))) :
    Pr.call (n+5) F.check_border [.val (bookD rows), .val d1, .val d2] = .ret (.shr .non) [] := by
  rw [call_check_border]
  have c1 := check_kinds_go (n+2) G as ha d1 (by rcases hd with h | h; exact .inl h.1; exact .inr h.1)
  have c2 := check_kinds_go (n+2) G bs hb d2 (by rcases hd with h | h; exact .inl h.2; exact .inr h.2)
  have go : ∀ (ps : List PV) (ds : List D) (o : O), (∀ e f, (⟨[some (.shr (bookD rows)), some (.shr d1), some (.shr d2), e, f], []⟩ : S).looks ps = some ds) → forRun (forStep (Pr.env (n+4)) (.tup [(.nm 3), (.nm 4)]) [.iff (.and (.cmp .ne (.var 3) (.glo "UNKNOWN" (.str "?"))) (.not (.x (.meth "below" [(8, F.Kindbook_below)] [false, false, false] (.var 0) (.cons (.var 3) (.cons (.var 4) .nil)))))) [.raise 7] [] []]) (looksB ps ds) [3, 4] ((as.zip bs).map fun p => D.tup [.str p.1, .str p.2]) ⟨[some (.shr (bookD rows)), some (.shr d1), some (.shr d2), none, none], []⟩ = o → o = .nx ⟨[some (.shr (bookD rows)), some (.shr d1), some (.shr d2), none, none], []⟩ := by
    intro ps ds o hl hf
    obtain ⟨s', rfl, e, f, rfl⟩ := for_thru hf (fun pre s => ∃ e f : Option SV, s = ⟨[some (.shr (bookD rows)), some (.shr d1), some (.shr d2), e, f], []⟩) ⟨none, none, rfl⟩ (fun pre s ⟨e, f, h⟩ => by subst h; simp [looksB_k, hl]) (fun pre p post s hx ⟨e, f, h⟩ => by
      subst h
      have hm : p ∈ as.zip bs := by rw [hx]; simp
      obtain ⟨m1, m2⟩ := zip_mem hm
      refine ⟨⟨[some (.shr (bookD rows)), some (.shr d1), some (.shr d2), some (.shr (.str p.1)), some (.shr (.str p.2))], []⟩, ?_, _, _, rfl⟩
      by_cases e : p.1 = "?"
      · simp [fstep_k, e]
      · have h1 := (ha _ m1).resolve_left e
        by_cases e2 : p.2 = "?"
        · have := below_any n G (l := p.1) (.inr h1)
          rw [← e2] at this
          simp [fstep_k, e, bd_below, this]
        · have h2 := (hb _ m2).resolve_left e2
          have h3 := ((hz p hm).resolve_left e).resolve_left e2
          simp [fstep_k, e, bd_below, below_ok n G h1 e h2 e2, h3])
    simp
  rcases hd with ⟨rfl, rfl⟩ | ⟨rfl, rfl⟩
  · simp [runF, I_check_border, c1, c2]
    rw [zip_strs]
    generalize hf : forRun _ _ _ _ _ = o
    have := go _ _ o (fun e f => by rfl) hf
    subst this
    simp
  · simp [runF, I_check_border, c1, c2]
    rw [zip_strs]
    generalize hf : forRun _ _ _ _ _ = o
    have := go _ _ o (fun e f => by rfl) hf
    subst this
    simp
/-! ### Passage.of -/
def pstep (rows : List Rec) (P : Ps) (i : Nat) (k : Str) : Ps :=
  if k = "?" ∨ P.fail ≠ 0 then P else match P.reached with
    | none => ⟨some k, i, some k, P.fail⟩
    | some r => if k ∈ chain rows r then ⟨P.gate, P.gs, some k, P.fail⟩ else ⟨P.gate, P.gs, P.reached, i⟩
def pfold (rows : List Rec) : Ps → Nat → List Str → Ps
  | P, _, [] => P
  | P, i, k :: ks => pfold rows (pstep rows P i k) (i + 1) ks
def ps0 (k : Str) : Ps := ⟨none, 0, if k = "?" then none else some k, 0⟩
def ofPs (rows : List Rec) (k : Str) (ks : List Str) : Ps := pfold rows (ps0 k) 1 ks
def Adj (rows : List Rec) : List Str → Prop
  | a :: b :: t => (a = "?" ∨ b = "?" ∨ b ∈ chain rows a) ∧ Adj rows (b :: t)
  | _ => True
theorem adj_zip {rows : List Rec} : ∀ {ks : List Str}, Adj rows ks → ∀ p ∈ ks.dropLast.zip ks.tail, p.1 = "?" ∨ p.2 = "?" ∨ p.2 ∈ chain rows p.1
  | [], _, p, h => by cases h
  | [a], _, p, h => by cases h
  | a :: b :: t, ⟨h1, h2⟩, p, h => by
    have e : (a :: b :: t).dropLast.zip (a :: b :: t).tail = (a, b) :: ((b :: t).dropLast.zip (b :: t).tail) := rfl
    rw [e] at h
    rcases List.mem_cons.mp h with rfl | h
    · exact h1
    · exact adj_zip h2 p h
end Den
set_option Elab.async false
set_option linter.all false
set_option maxRecDepth 100000
set_option autoImplicit false
set_option maxHeartbeats 1000000
namespace Den
open PySem L2
theorem pfold_snoc (rows : List Rec) : ∀ (ks : List Str) (P : Ps) (i : Nat) (k : Str), pfold rows P i (ks ++ [k]) = pstep rows (pfold rows P i ks) (i + ks.length) k
  | [], P, i, k => rfl
  | a :: ks, P, i, k => by
    show pfold rows (pstep rows P i a) (i + 1) (ks ++ [k]) = _
    rw [pfold_snoc rows ks]
    show _ = pstep rows (pfold rows (pstep rows P i a) (i + 1) ks) (i + (ks.length + 1)) k
    rw [show i + 1 + ks.length = i + (ks.length + 1) by omega]
def PsOk (rows : List Rec) (P : Ps) : Prop := (∀ r, P.reached = some r → r ∈ names rows) ∧ (∀ g, P.gate = some g → g ∈ names rows)
theorem pstep_ok {rows : List Rec} {P : Ps} (h : PsOk rows P) (i : Nat) {k : Str} (hk : KOk rows k) : PsOk rows (pstep rows P i k) := by
  unfold pstep
  split
  · exact h
  · rename_i hc
    have hn : k ∈ names rows := hk.resolve_left (fun z => hc (.inl z))
    split
    · exact ⟨fun r hr => by cases hr; exact hn, fun g hg => by cases hg; exact hn⟩
    · split
      · exact ⟨fun r hr => by cases hr; exact hn, h.2⟩
      · exact h
theorem ps0_ok {rows : List Rec} {k : Str} (hk : KOk rows k) : PsOk rows (ps0 k) := by
  unfold ps0
  refine ⟨fun r hr => ?_, fun g hg => (by cases hg)⟩
  by_cases e : k = "?"
  · simp [e] at hr
  · simp [e] at hr
    subst hr
    exact hk.resolve_left e
theorem pfold_ok {rows : List Rec} : ∀ (ks : List Str) {P : Ps} (i : Nat), PsOk rows P → (∀ k ∈ ks, KOk rows k) → PsOk rows (pfold rows P i ks)
  | [], P, i, h, _ => h
  | k :: ks, P, i, h, hk => pfold_ok ks (i + 1) (pstep_ok h i (hk k List.mem_cons_self)) fun a ha => hk a (List.mem_cons_of_mem _ ha)
def ofS (b d : D) (P : Ps) (e f : Option SV) : S := ⟨[some (.shr b), some (.shr d), some (.shr (parD P.gate)), some (.shr (.int P.gs)), some (.shr (parD P.reached)), some (.shr (.int P.fail)), e, f], []⟩
abbrev ofBody : List C := match I_Passage_of.body with
  | [_, _, _, _, _, _, .for _ _ b _, _] => b
  | _ => []
theorem of_step (n : Nat) {rows : List Rec} (G : Good rows) (d : D) (P : Ps) (h : PsOk rows P) (i : Nat) (k : Str) (hk : KOk rows k) : ∃ e f, forStep (Pr.env (n+4)) (.tup [(.nm 6), (.nm 7)]) ofBody (ofS (bookD rows) d P none none) (.tup [.int (i : Int), .str k]) = .nx (ofS (bookD rows) d (pstep rows P i k) e f) := by
  refine ⟨some (.shr (.int i)), some (.shr (.str k)), ?_⟩
  unfold pstep
  by_cases e : k = "?"
  · rw [if_pos (.inl e)]
    simp [ofS, fstep_k, ofBody, I_Passage_of, e]
  · have hn := hk.resolve_left e
    by_cases hf : P.fail = 0
    · rw [if_neg (by simp [e, hf])]
      cases hr : P.reached with
      | none => simp [ofS, fstep_k, ofBody, I_Passage_of, e, hf, hr, parD]
      | some r =>
        have rm := h.1 r hr
        have bl := below_ok n G rm (name_ne G rm) hn e
        by_cases hc : k ∈ chain rows r
        · simp [ofS, fstep_k, ofBody, I_Passage_of, e, hf, hr, parD, bd_below, bl, hc]
        · simp [ofS, fstep_k, ofBody, I_Passage_of, e, hf, hr, parD, bd_below, bl, hc]
    · rw [if_pos (.inr hf)]
      have hf2 : ¬ (P.fail : Int) = 0 := by omega
      simp [ofS, fstep_k, ofBody, I_Passage_of, e, hf, hf2]
theorem zipIdx_split {α : Type} {l : List α} {pre post : List (α × Nat)} {x : α × Nat} (h : l.zipIdx = pre ++ x :: post) : x.2 = pre.length ∧ pre.map (·.1) ++ [x.1] = l.take (pre.length + 1) ∧ x.1 ∈ l := by
  have e : l.zipIdx[pre.length]? = some x := by rw [h]; simp
  rw [List.getElem?_zipIdx] at e
  cases hl : l[pre.length]? with
  | none => rw [hl] at e; cases e
  | some a =>
    rw [hl] at e
    cases e
    refine ⟨by simp, ?_, List.mem_of_getElem? hl⟩
    have := congrArg (fun z => (z.map (·.1)).take (pre.length + 1)) h
    simp only [List.map_append, List.map_cons] at this
    have e2 : (l.zipIdx.map (·.1)) = l := by simp
    rw [e2] at this
    rw [this]
    have : (pre.map (·.1)).length + 1 = pre.length + 1 := by simp
    rw [List.take_append]
    simp
    exact (List.take_of_length_le (by simp)).symm
theorem cut_init {α : Type} (xs : List α) (h : xs ≠ []) : cutG xs none (some (-1)) = xs.dropLast := by
  unfold cutG
  rw [HT.sIx_none]
  have : HT.sIx xs.length xs.length (some (-1)) = xs.length - 1 := by
    have : 0 < xs.length := List.length_pos_iff.mpr h
    unfold HT.sIx
    simp
    omega
  rw [this, List.dropLast_eq_take]
  simp
theorem cut_tl {α : Type} (xs : List α) (h : xs ≠ []) : cutG xs (some 1) none = xs.tail := by
  unfold cutG
  rw [show (1 : Int) = ((1 : Nat) : Int) from rfl, HT.sIx_nat, HT.sIx_none]
  have : 0 < xs.length := List.length_pos_iff.mpr h
  have e : min 1 xs.length = 1 := by omega
  rw [e, List.drop_one]
  apply List.take_of_length_le
  simp
theorem ixI_last {α : Type} (xs : List α) (h : xs ≠ []) : ixI xs (-1) = some (xs.getLast h) := by
  have : 0 < xs.length := List.length_pos_iff.mpr h
  unfold ixI atI
  have e : ixN xs.length (-1) = some (xs.length - 1) := by
    unfold ixN
    rw [if_neg (by omega), if_pos (by omega)]
    congr 1
    omega
  rw [e, Option.bind_some, List.getLast_eq_getElem, List.getElem?_eq_getElem (by omega)]
theorem of_ok (n : Nat) {rows : List Rec} (G : Good rows) (k : Str) (kt : List Str) (hk : ∀ a ∈ k :: kt, KOk rows a) (ha : Adj rows (k :: kt)) (hl : kt.length ≤ 100) (d : D) (hd : d = .lst ((k :: kt).map .str) ∨ d = .tup ((k :: kt).map .str)) :
    Pr.call (n+6) F.Passage_of [.val (bookD rows), .val d] = .ret (.own (passD rows k ((k :: kt).getLast (by simp)) kt.length (ofPs rows k kt))) [] := by
  rw [call_Passage_of]
  have c1 := check_kinds_go (n+3) G (k :: kt) hk d hd
  have hi : ∀ a ∈ (k :: kt).dropLast, KOk rows a := fun a h => hk a (List.dropLast_subset _ h)
  have ht : ∀ a ∈ (k :: kt).tail, KOk rows a := fun a h => hk a (List.mem_of_mem_tail h)
  have hz : ∀ p ∈ (k :: kt).dropLast.zip (k :: kt).tail, p.1 = "?" ∨ p.2 = "?" ∨ p.2 ∈ chain rows p.1 := adj_zip ha
  have go : ∀ (ps : List PV) (ds : List D) (o : O), (∀ P e f, (ofS (bookD rows) d P e f).looks ps = some ds) → forRun (forStep (Pr.env (n+5)) (.tup [(.nm 6), (.nm 7)]) ofBody) (looksB ps ds) [6, 7] (kt.zipIdx.map fun p : Str × Nat => D.tup [.int (1 + (p.2 : Int)), .str p.1]) (ofS (bookD rows) d (ps0 k) none none) = o → o = .nx (ofS (bookD rows) d (ofPs rows k kt) none none) := by
    intro ps ds o hl hf
    obtain ⟨s', rfl, e, f, rfl⟩ := for_thru hf (fun pre s => ∃ e f : Option SV, s = ofS (bookD rows) d (pfold rows (ps0 k) 1 (pre.map (·.1))) e f) ⟨none, none, rfl⟩ (fun pre s ⟨e, f, h⟩ => by subst h; simp [looksB_k, hl]) (fun pre p post s hx ⟨e, f, h⟩ => by
      subst h
      obtain ⟨q1, q2, q3⟩ := zipIdx_split hx
      have sub : ∀ a ∈ pre.map (·.1), KOk rows a := fun a h => by
        have : a ∈ kt.take (pre.length + 1) := by rw [← q2]; exact List.mem_append_left _ h
        exact hk a (List.mem_cons_of_mem _ (List.mem_of_mem_take this))
      obtain ⟨e', f', st⟩ := of_step (n+1) G d (pfold rows (ps0 k) 1 (pre.map (·.1))) (pfold_ok _ 1 (ps0_ok (hk k List.mem_cons_self)) sub) (1 + pre.length) p.1 (hk p.1 (List.mem_cons_of_mem _ q3))
      refine ⟨_, ?_, e', f', by rw [List.map_append, List.map_singleton, pfold_snoc, List.length_map]⟩
      have e9 : (1 + (p.2 : Int)) = ((1 + pre.length : Nat) : Int) := by rw [q1]; simp
      rw [e9, ← st]
      rfl)
    have : (kt.zipIdx.map (·.1)) = kt := by simp
    rw [this]
    rfl
  have zi : ((kt.map D.str).zipIdx.map fun p => D.tup [.int (1 + (p.2 : Int)), p.1]) = kt.zipIdx.map fun p : Str × Nat => D.tup [.int (1 + (p.2 : Int)), .str p.1] := by
    rw [List.zipIdx_map, List.map_map]; rfl
  have pi := pass_init (n+4) (bookD rows) (.str k) (.str ((k :: kt).getLast (by simp))) (.int kt.length) (parD (ofPs rows k kt).gate) (.int (ofPs rows k kt).gs) (parD (ofPs rows k kt).reached) (.int (ofPs rows k kt).fail)
  have i0 : ixI ((k :: kt).map D.str) 0 = some (.str k) := by have := ixI_nat ((k :: kt).map D.str) 0; simpa using this
  have iL : ixI ((k :: kt).map D.str) (-1) = some (.str ((k :: kt).getLast (by simp))) := by rw [ixI_last _ (by simp)]; congr 1; rw [List.getLast_map]
  have cI : cutG ((k :: kt).map D.str) none (some (-1)) = (k :: kt).dropLast.map .str := by rw [cut_init _ (by simp), List.map_dropLast]
  have cT : cutG ((k :: kt).map D.str) (some 1) none = kt.map .str := by rw [cut_tl _ (by simp)]; rfl
  have len : (((k :: kt).map D.str).length : Int) - 1 = kt.length := by simp
  have zK : ∀ L : List D, L = kt.map .str → (L.zipIdx.map fun p => D.tup [.int (1 + (p.2 : Int)), p.1]) = kt.zipIdx.map fun p : Str × Nat => D.tup [.int (1 + (p.2 : Int)), .str p.1] := fun L h => by rw [h]; exact zi
  have z0 : (if k = "?" then D.non else D.str k) = parD (ps0 k).reached := by unfold ps0; by_cases e : k = "?" <;> simp [e, parD]
  have fin : ∀ (T : List D), T = kt.map .str → True := fun _ _ => trivial
  rcases hd with rfl | rfl
  · have c2 := check_border_go n G _ _ hi ht hz (.lst ((k :: kt).dropLast.map .str)) (.lst (kt.map .str)) (.inl ⟨rfl, rfl⟩)
    generalize hK : (k :: kt).map D.str = K at *
    generalize hL : (k :: kt).getLast (by simp) = L at *
    generalize hI : (k :: kt).dropLast.map D.str = I at *
    generalize hT : kt.map D.str = T at *
    by_cases e : k = "?"
    · subst e
      simp [runF, I_Passage_of, c1, c2, cI, cT, i0, iL, len]
      generalize hf : forRun _ _ _ _ _ = o
      rw [zK T rfl] at hf
      have := go _ _ o (fun P e f => by rfl) hf
      subst this
      simp [ofS, i0, iL, len, pi]
      rfl
    · have hps : ps0 k = ⟨none, 0, some k, 0⟩ := by simp [ps0, e]
      rw [hps] at go
      simp [runF, I_Passage_of, c1, c2, cI, cT, i0, iL, len, e]
      generalize hf : forRun _ _ _ _ _ = o
      rw [zK T rfl] at hf
      have := go _ _ o (fun P e f => by rfl) hf
      subst this
      simp [ofS, i0, iL, len, pi]
      rfl
  · have c2 := check_border_go n G _ _ hi ht hz (.tup ((k :: kt).dropLast.map .str)) (.tup (kt.map .str)) (.inr ⟨rfl, rfl⟩)
    generalize hK : (k :: kt).map D.str = K at *
    generalize hL : (k :: kt).getLast (by simp) = L at *
    generalize hI : (k :: kt).dropLast.map D.str = I at *
    generalize hT : kt.map D.str = T at *
    by_cases e : k = "?"
    · subst e
      simp [runF, I_Passage_of, c1, c2, cI, cT, i0, iL, len]
      generalize hf : forRun _ _ _ _ _ = o
      rw [zK T rfl] at hf
      have := go _ _ o (fun P e f => by rfl) hf
      subst this
      simp [ofS, i0, iL, len, pi]
      rfl
    · have hps : ps0 k = ⟨none, 0, some k, 0⟩ := by simp [ps0, e]
      rw [hps] at go
      simp [runF, I_Passage_of, c1, c2, cI, cT, i0, iL, len, e]
      generalize hf : forRun _ _ _ _ _ = o
      rw [zK T rfl] at hf
      have := go _ _ o (fun P e f => by rfl) hf
      subst this
      simp [ofS, i0, iL, len, pi]
      rfl
end Den
set_option Elab.async false
set_option linter.all false
set_option maxRecDepth 100000
set_option autoImplicit false
set_option maxHeartbeats 1000000
namespace Den
open PySem L2
def stageP (rows : List Rec) (P : Ps) (x : Str) : Nat := match P.gate with
  | some g => if g ∈ chain rows x then P.fail else P.gs
  | none => P.fail
def leadP (rows : List Rec) (P : Ps) (x : Str) (i : Int) : Option (Str × Int) :=
  if 0 < stageP rows P x then none else match P.reached with
    | none => some (x, i)
    | some r => (led rows x i r).map fun j => (r, j)
theorem stage_ok (n : Nat) {rows : List Rec} (G : Good rows) {s e : Str} {b : Nat} {P : Ps} (h : PsOk rows P) {x : Str} (i : Int) (hx : x ∈ names rows) : Pr.call (n+5) F.Passage_stage [.val (passD rows s e b P), .val (vD x i)] = .ret (.shr (.int (stageP rows P x))) [] := by
  rw [call_Passage_stage]
  unfold stageP
  cases hg : P.gate with
  | none => simp [runF, I_Passage_stage, pf_gate, pf_fail, hg, parD]
  | some g =>
    have gm := h.2 g hg
    have bl := below_ok n G hx (name_ne G hx) gm (name_ne G gm)
    by_cases hc : g ∈ chain rows x
    · simp [runF, I_Passage_stage, pf_gate, pf_fail, pf_book, hg, parD, bd_below, vD, ix20, bl, hc]
    · simp [runF, I_Passage_stage, pf_gate, pf_gs, pf_book, hg, parD, bd_below, vD, ix20, bl, hc]
theorem lead_ok (n : Nat) {rows : List Rec} (G : Good rows) {s e : Str} {b : Nat} {P : Ps} (h : PsOk rows P) {x : Str} {i : Int} (hv : VOk rows x i) : Pr.call (n+6) F.Passage_lead [.val (passD rows s e b P), .val (vD x i)] = .ret (.shr (ovD (leadP rows P x i))) [] := by
  rw [call_Passage_lead]
  have st := stage_ok n G (s := s) (e := e) (b := b) h i hv.mem
  unfold leadP
  by_cases h0 : 0 < stageP rows P x
  · have h1 : (0 : Int) < (stageP rows P x : Int) := by omega
    simp [runF, I_Passage_lead, pd_lead, pd_stage, st, h0, h1, ovD]
  · have h1 : ¬ (0 : Int) < (stageP rows P x : Int) := by omega
    cases hr : P.reached with
    | none => simp [runF, I_Passage_lead, pd_stage, st, h0, h1, pf_reached, hr, parD, ovD]
    | some r =>
      have rm := h.1 r hr
      have l := led_ok (n+1) G (bk_b rows) hv rm (name_ne G rm)
      have l' : Pr.call (n+1+4) F.Kindbook_led [.val (bookD rows), .val (vD x i), .val (.str r)] = .ret (.shr (ledD r (led rows x i r))) [] := l
      have lo : ovD ((led rows x i r).map fun j => (r, j)) = ledD r (led rows x i r) := by cases led rows x i r <;> rfl
      simp [runF, I_Passage_lead, pd_stage, st, h0, h1, pf_reached, hr, parD, pf_book, bd_led, l', lo]
/-! the values of a kind -/
def pD (p : Str × Int) : D := vD p.1 p.2
def memP (rows : List Rec) (k : Str) : List (Str × Int) := (if k = "?" then names rows else [k]).flatMap fun x => (List.range (szOf rows x)).map fun i : Nat => (x, (i : Int))
theorem members_memP (rows : List Rec) (k : Str) : members rows k = (memP rows k).map pD := by
  unfold members memP
  rw [List.map_flatMap]
  congr 1
  funext x
  unfold mem1
  rw [List.map_map]
  rfl
theorem memP_ok {rows : List Rec} (G : Good rows) {k : Str} (hk : KOk rows k) : ∀ p ∈ memP rows k, VOk rows p.1 p.2 ∧ (k ≠ "?" → p.1 = k) := by
  intro p hp
  obtain ⟨x, hx, hp⟩ := List.mem_flatMap.mp hp
  obtain ⟨i, hi, rfl⟩ := List.mem_map.mp hp
  have xm : x ∈ names rows := by
    by_cases e : k = "?"
    · rw [if_pos e] at hx; exact hx
    · rw [if_neg e] at hx; rw [List.mem_singleton.mp hx]; exact hk.resolve_left e
  obtain ⟨r, hr, e, _⟩ := szOf_le G xm
  rw [List.mem_range, e] at hi
  refine ⟨⟨r, hr, by simp, by simp; exact hi⟩, fun z => ?_⟩
  rw [if_neg z] at hx
  exact List.mem_singleton.mp hx
theorem memP_len {rows : List Rec} (G : Good rows) {k : Str} (hk : KOk rows k) : (memP rows k).length ≤ 20 := by
  have e : (memP rows k).length = (members rows k).length := by rw [members_memP, List.length_map]
  rw [e]
  unfold members
  by_cases q : k = "?"
  · rw [if_pos q]
    have := flat_len G (names rows) fun x h => h
    have l := names_len rows
    have := G.le
    omega
  · rw [if_neg q]
    have := flat_len G [k] fun x h => by rw [List.mem_singleton.mp h]; exact hk.resolve_left q
    simp at this ⊢
    omega
theorem passing_ok (n : Nat) {rows : List Rec} (G : Good rows) {s e : Str} {b : Nat} {P : Ps} (h : PsOk rows P) (hs : KOk rows s) : Pr.call (n+6) F.Passage_passing [.val (passD rows s e b P)] = .ret (.own (.lst (((memP rows s).filter fun p => decide (stageP rows P p.1 = 0)).map pD))) [] := by
  rw [call_Passage_passing]
  have m := members_ok (n+2) G hs
  rw [members_memP] at m
  have fl : (memP rows s).all (D.tfl ∘ pD) = true := List.all_eq_true.mpr fun _ _ => rfl
  simp [runF, I_Passage_passing, pf_book, pf_start, bd_members, m, fl]
  generalize hf : compRun _ _ _ _ _ = o
  have := comp_fil hf (fun p => if stageP rows P p.1 = 0 then some (pD p) else none) (by simp [looksB_k]) (fun p hp => by
    have st := stage_ok n G (s := s) (e := e) (b := b) h p.2 ((memP_ok G hs p hp).1.mem)
    by_cases c : stageP rows P p.1 = 0
    · simp [step_k, pd_stage, pD, st, c]
    · have c2 : ¬ (stageP rows P p.1 : Int) = 0 := by omega
      simp [step_k, pd_stage, pD, st, c, c2]) (by have := memP_len G hs; unfold lim; omega)
  subst this
  have e : ((memP rows s).filterMap fun p => if stageP rows P p.1 = 0 then some (pD p) else none) = ((memP rows s).filter fun p => decide (stageP rows P p.1 = 0)).map pD := by
    induction memP rows s with
    | nil => rfl
    | cons a l ih =>
      rw [List.filterMap_cons, List.filter_cons]
      by_cases c : stageP rows P a.1 = 0
      · simp [c]; exact ih
      · simp [c]; exact ih
  rw [e]
  simp
end Den
set_option Elab.async false
set_option linter.all false
set_option maxRecDepth 100000
set_option autoImplicit false
set_option maxHeartbeats 1000000
namespace Den
open PySem L2
def behind (b s : Nat) : Nat := if 0 < s then b + s else 0
def joinP (rows : List Rec) (b : Nat) (P Q : Ps) : Ps :=
  if 0 < P.fail then P else match P.reached with
    | none => ⟨Q.gate, behind b Q.gs, Q.reached, behind b Q.fail⟩
    | some r => match Q.gate with
      | some g => if g ∈ chain rows r then ⟨P.gate, P.gs, (match Q.reached with | none => some r | some q => some q), behind b Q.fail⟩ else ⟨P.gate, P.gs, some r, behind b Q.gs⟩
      | none => ⟨P.gate, P.gs, (match Q.reached with | none => some r | some q => some q), behind b Q.fail⟩
theorem behind_ok (n : Nat) {rows : List Rec} {s e : Str} {b : Nat} {P : Ps} (t : Nat) : Pr.call (n+1) F.Passage__stage_behind [.val (passD rows s e b P), .val (.int t)] = .ret (.shr (.int (behind b t))) [] := by
  rw [call_Passage__stage_behind]
  unfold behind
  by_cases h : 0 < t
  · have h2 : (0 : Int) < t := by omega
    simp [runF, I_Passage__stage_behind, h, h2, pf_borders]
  · have h2 : ¬ (0 : Int) < t := by omega
    simp [runF, I_Passage__stage_behind, h, h2]
def psT (P : Ps) : D := .tup [parD P.gate, .int P.gs, parD P.reached, .int P.fail]
theorem joined_ok (n : Nat) {rows : List Rec} (G : Good rows) {s e s2 e2 : Str} {b b2 : Nat} {P Q : Ps} (hp : PsOk rows P) (hq : PsOk rows Q) : Pr.call (n+5) F.Passage__joined_parts [.val (passD rows s e b P), .val (passD rows s2 e2 b2 Q)] = .ret (.shr (psT (joinP rows b P Q))) [] := by
  rw [call_Passage__joined_parts]
  unfold joinP
  have b1 := behind_ok (n+3) (rows := rows) (s := s) (e := e) (b := b) (P := P) Q.gs
  have b3 := behind_ok (n+3) (rows := rows) (s := s) (e := e) (b := b) (P := P) Q.fail
  by_cases h : 0 < P.fail
  · have h2 : (0 : Int) < P.fail := by omega
    simp [runF, I_Passage__joined_parts, h, h2, pf_gate, pf_gs, pf_reached, pf_fail, psT, lim]
  · have h2 : ¬ (0 : Int) < P.fail := by omega
    cases hr : P.reached with
    | none => simp [runF, I_Passage__joined_parts, h, h2, pf_gate, pf_gs, pf_reached, pf_fail, psT, lim, pd_behind, b1, b3, hr, parD]
    | some r =>
      have rm := hp.1 r hr
      cases hg : Q.gate with
      | none =>
        cases hq2 : Q.reached with
        | none => simp [runF, I_Passage__joined_parts, h, h2, pf_gate, pf_gs, pf_reached, pf_fail, psT, lim, pd_behind, b1, b3, hr, hg, hq2, parD]
        | some q => simp [runF, I_Passage__joined_parts, h, h2, pf_gate, pf_gs, pf_reached, pf_fail, psT, lim, pd_behind, b1, b3, hr, hg, hq2, parD]
      | some g =>
        have gm := hq.2 g hg
        have bl := below_ok n G rm (name_ne G rm) gm (name_ne G gm)
        by_cases hc : g ∈ chain rows r
        · cases hq2 : Q.reached with
          | none => simp [runF, I_Passage__joined_parts, h, h2, pf_gate, pf_gs, pf_reached, pf_fail, pf_book, psT, lim, pd_behind, b1, b3, hr, hg, hq2, parD, bd_below, bl, hc]
          | some q => simp [runF, I_Passage__joined_parts, h, h2, pf_gate, pf_gs, pf_reached, pf_fail, pf_book, psT, lim, pd_behind, b1, b3, hr, hg, hq2, parD, bd_below, bl, hc]
        · simp [runF, I_Passage__joined_parts, h, h2, pf_gate, pf_gs, pf_reached, pf_fail, pf_book, psT, lim, pd_behind, b1, b3, hr, hg, parD, bd_below, bl, hc]
theorem then_ok (n : Nat) {rows : List Rec} (G : Good rows) {s e e2 : Str} {b b2 : Nat} {P Q : Ps} (hp : PsOk rows P) (hq : PsOk rows Q) : Pr.call (n+6) F.Passage_then [.val (passD rows s e b P), .val (passD rows e e2 b2 Q)] = .ret (.own (passD rows s e2 (b + b2) (joinP rows b P Q))) [] := by
  rw [call_Passage_then]
  have j := joined_ok n G (s := s) (e := e) (s2 := e) (e2 := e2) (b := b) (b2 := b2) hp hq
  generalize hJ : joinP rows b P Q = J at *
  have pi := pass_init (n+4) (bookD rows) (.str s) (.str e2) (.int ((b + b2 : Nat) : Int)) (parD J.gate) (.int J.gs) (parD J.reached) (.int J.fail)
  have pi' : ∀ a : Int, a = ((b + b2 : Nat) : Int) → Pr.call (n+4+1) F.Passage___init__ [.bor (.obj 9 [] []), .val (bookD rows), .val (.str s), .val (.str e2), .val (.int a), .val (parD J.gate), .val (.int J.gs), .val (parD J.reached), .val (.int J.fail)] = .ret (.shr .non) [passD rows s e2 (b + b2) J] := fun a h => by rw [h]; exact pi
  have p2 := pi' ((b : Int) + (b2 : Int)) (by simp)
  simp [runF, I_Passage_then, pf_start, pf_end, pf_borders, pf_book, pd_joined, j, psT, p2]
/-! ### what a passage does to a value -/
/-- led through the kinds -/
def walkV (rows : List Rec) : List Str → Str × Int → Option (Str × Int)
  | [], v => some v
  | k :: ks, v => if k = "?" then walkV rows ks v else match led rows v.1 v.2 k with
    | none => none
    | some j => walkV rows ks (k, j)
/-- the value is where the passage says -/
def At (rows : List Rec) (v : Str × Int) (P : Ps) (w : Str × Int) : Prop :=
  P.fail = 0 ∧ (match P.gate with | none => True | some g => g ∈ chain rows v.1) ∧ (match P.reached with | none => w = v ∧ P.gate = none | some r => w.1 = r ∧ led rows v.1 v.2 r = some w.2)
/-- .. or has failed -/
def Out_ (rows : List Rec) (v : Str × Int) (P : Ps) : Prop := 0 < stageP rows P v.1
end Den
set_option Elab.async false
set_option linter.all false
set_option maxRecDepth 100000
set_option autoImplicit false
set_option maxHeartbeats 1000000
namespace Den
open PySem L2
def V2 (rows : List Rec) (v : Str × Int) : Prop := VOk rows v.1 v.2
def ledK (rows : List Rec) (v : Str × Int) (k : Str) : Option (Str × Int) := if k = "?" then some v else (led rows v.1 v.2 k).map fun j => (k, j)
def walked (rows : List Rec) : Nat → List Str → Str × Int → Nat × Option (Str × Int)
  | _, [], v => (0, some v)
  | i, k :: ks, v => match ledK rows v k with
    | none => (i, none)
    | some w => walked rows (i + 1) ks w
/-- a passage in order -/
structure PG (P : Ps) : Prop where
  gr : P.gate ≠ none → P.reached ≠ none
  gs : P.gate ≠ none → 0 < P.gs
theorem pg0 (k : Str) : PG (ps0 k) := ⟨fun h => absurd rfl h, fun h => absurd rfl h⟩
theorem pg_step {rows : List Rec} {P : Ps} (h : PG P) {i : Nat} (hi : 1 ≤ i) (k : Str) : PG (pstep rows P i k) := by
  unfold pstep
  split
  · exact h
  · split
    · exact ⟨fun _ z => (by cases z), fun _ => hi⟩
    · rename_i r hr
      split
      · exact ⟨fun _ z => (by cases z), h.gs⟩
      · exact ⟨fun _ z => (by rw [hr] at z; cases z), h.gs⟩
theorem pg_fold {rows : List Rec} : ∀ (ks : List Str) {P : Ps} {i : Nat}, PG P → 1 ≤ i → PG (pfold rows P i ks)
  | [], P, i, h, _ => h
  | k :: ks, P, i, h, hi => pg_fold ks (pg_step h hi k) (by omega)
theorem fail_stays {rows : List Rec} : ∀ (ks : List Str) (P : Ps) (i : Nat), P.fail ≠ 0 → pfold rows P i ks = P
  | [], P, i, _ => rfl
  | k :: ks, P, i, h => by
    have e : pstep rows P i k = P := by unfold pstep; rw [if_pos (.inr h)]
    show pfold rows (pstep rows P i k) (i + 1) ks = P
    rw [e]
    exact fail_stays ks P (i + 1) h
theorem gate_stays {rows : List Rec} : ∀ (ks : List Str) (P : Ps) (i : Nat) (g : Str), P.gate = some g → P.reached ≠ none → (pfold rows P i ks).gate = some g ∧ (pfold rows P i ks).gs = P.gs
  | [], P, i, g, h, _ => ⟨h, rfl⟩
  | k :: ks, P, i, g, h, hr => by
    have e : (pstep rows P i k).gate = some g ∧ (pstep rows P i k).gs = P.gs ∧ (pstep rows P i k).reached ≠ none := by
      unfold pstep
      split
      · exact ⟨h, rfl, hr⟩
      · split
        · rename_i hn; exact absurd hn hr
        · split
          · exact ⟨h, rfl, fun z => by cases z⟩
          · exact ⟨h, rfl, hr⟩
    obtain ⟨a, b⟩ := gate_stays ks (pstep rows P i k) (i + 1) g e.1 e.2.2
    exact ⟨a, b.trans e.2.1⟩
theorem at_lead {rows : List Rec} {v w : Str × Int} {P : Ps} (h : At rows v P w) : stageP rows P v.1 = 0 ∧ leadP rows P v.1 v.2 = some w := by
  obtain ⟨h1, h2, h3⟩ := h
  have st : stageP rows P v.1 = 0 := by
    unfold stageP
    cases hg : P.gate with
    | none => exact h1
    | some g => rw [hg] at h2; simp only; rw [if_pos h2]; exact h1
  refine ⟨st, ?_⟩
  unfold leadP
  rw [if_neg (by omega)]
  cases hr : P.reached with
  | none => rw [hr] at h3; simp only; rw [h3.1]
  | some r =>
    rw [hr] at h3
    obtain ⟨a, b⟩ := h3
    simp only
    rw [b, ← a]
    rfl
theorem walk_main {rows : List Rec} (G : Good rows) {v : Str × Int} (hv : V2 rows v) : ∀ (ks : List Str) (P : Ps) (i : Nat) (w : Str × Int), At rows v P w → V2 rows w → (∀ k ∈ ks, KOk rows k) → 1 ≤ i →
    (∃ w', walked rows i ks w = (0, some w') ∧ At rows v (pfold rows P i ks) w' ∧ V2 rows w') ∨ (∃ st, walked rows i ks w = (st, none) ∧ 0 < st ∧ stageP rows (pfold rows P i ks) v.1 = st)
  | [], P, i, w, ha, hw, _, _ => .inl ⟨w, rfl, ha, hw⟩
  | k :: ks, P, i, w, ha, hw, hk, hi => by
    obtain ⟨h1, h2, h3⟩ := ha
    have hks : ∀ a ∈ ks, KOk rows a := fun a h => hk a (List.mem_cons_of_mem _ h)
    by_cases e : k = "?"
    · have ep : pstep rows P i k = P := by unfold pstep; rw [if_pos (.inl e)]
      have el : ledK rows w k = some w := by unfold ledK; rw [if_pos e]
      have ih := walk_main G hv ks P (i + 1) w ⟨h1, h2, h3⟩ hw hks (by omega)
      show (∃ w', (match ledK rows w k with | none => (i, none) | some w => walked rows (i + 1) ks w) = (0, some w') ∧ At rows v (pfold rows (pstep rows P i k) (i + 1) ks) w' ∧ V2 rows w') ∨ _
      rw [ep, el]
      have e2 : walked rows i (k :: ks) w = walked rows (i + 1) ks w := by
        show (match ledK rows w k with | none => (i, none) | some w => walked rows (i + 1) ks w) = _
        rw [el]
      have e3 : pfold rows P i (k :: ks) = pfold rows P (i + 1) ks := by show pfold rows (pstep rows P i k) (i + 1) ks = _; rw [ep]
      rw [e2, e3]
      exact ih
    · have kn := (hk k List.mem_cons_self).resolve_left e
      have el : ledK rows w k = (led rows w.1 w.2 k).map fun j => (k, j) := by unfold ledK; rw [if_neg e]
      have wk : walked rows i (k :: ks) w = match (led rows w.1 w.2 k).map fun j => (k, j) with | none => (i, none) | some w => walked rows (i + 1) ks w := by
        show (match ledK rows w k with | none => (i, none) | some w => walked rows (i + 1) ks w) = _
        rw [el]
      have pf : ∀ P1, pstep rows P i k = P1 → pfold rows P i (k :: ks) = pfold rows P1 (i + 1) ks := fun P1 h => by show pfold rows (pstep rows P i k) (i + 1) ks = _; rw [h]
      have ps : pstep rows P i k = match P.reached with
        | none => ⟨some k, i, some k, P.fail⟩
        | some r => if k ∈ chain rows r then ⟨P.gate, P.gs, some k, P.fail⟩ else ⟨P.gate, P.gs, P.reached, i⟩ := by
        unfold pstep; rw [if_neg (by simp [e, h1])]; all_goals (cases P.reached <;> rfl)
      cases hr : P.reached with
      | none =>
        rw [hr] at h3 ps
        obtain ⟨rfl, hg⟩ := h3
        have p1 := pf _ ps
        rw [p1, wk]
        by_cases hc : k ∈ chain rows w.1
        · obtain ⟨j, e1, vj⟩ := led_in G hv hc
          rw [e1]
          exact walk_main G hv ks ⟨some k, i, some k, P.fail⟩ (i + 1) (k, j) ⟨h1, hc, rfl, e1⟩ vj hks (by omega)
        · rw [led_out G hv hc]
          refine .inr ⟨i, rfl, by omega, ?_⟩
          obtain ⟨a, b⟩ := gate_stays (rows := rows) ks ⟨some k, i, some k, P.fail⟩ (i + 1) k rfl (fun z => by cases z)
          unfold stageP
          rw [a]
          simp only
          rw [if_neg hc, b]
      | some r =>
        rw [hr] at h3 ps
        obtain ⟨hw1, hl⟩ := h3
        by_cases hc : k ∈ chain rows r
        · have hc' : k ∈ chain rows w.1 := by rw [hw1]; exact hc
          obtain ⟨j, e1, vj⟩ := led_in G hw hc'
          simp only [hc, if_true] at ps
          rw [pf _ ps, wk, e1]
          refine walk_main G hv ks ⟨P.gate, P.gs, some k, P.fail⟩ (i + 1) (k, j) ⟨h1, h2, rfl, ?_⟩ vj hks (by omega)
          exact led_on G hv hl (by rw [← hw1]; exact e1)
        · have hc' : k ∉ chain rows w.1 := by rw [hw1]; exact hc
          simp only [hc, if_false] at ps
          rw [pf _ ps, wk, led_out G hw hc']
          refine .inr ⟨i, rfl, by omega, ?_⟩
          rw [fail_stays ks _ (i + 1) (show i ≠ 0 by omega)]
          unfold stageP
          cases hg : P.gate with
          | none => rfl
          | some g => rw [hg] at h2; simp only; rw [if_pos h2]
end Den
set_option Elab.async false
set_option linter.all false
set_option maxRecDepth 100000
set_option autoImplicit false
set_option maxHeartbeats 1000000
namespace Den
open PySem L2
theorem at0 {rows : List Rec} (G : Good rows) {k : Str} {v : Str × Int} (hv : V2 rows v) (h : k ≠ "?" → v.1 = k) : At rows v (ps0 k) v := by
  refine ⟨rfl, trivial, ?_⟩
  unfold ps0
  by_cases e : k = "?"
  · simp [e]
  · simp only [e, if_false]
    have := h e
    subst this
    exact ⟨rfl, led_self G hv⟩
/-- a passage of kinds, and the walk -/
theorem of_walk {rows : List Rec} (G : Good rows) {k : Str} {v : Str × Int} (hv : V2 rows v) (h : k ≠ "?" → v.1 = k) (ks : List Str) (hk : ∀ a ∈ ks, KOk rows a) :
    (∃ w', walked rows 1 ks v = (0, some w') ∧ At rows v (ofPs rows k ks) w' ∧ V2 rows w') ∨ (∃ st, walked rows 1 ks v = (st, none) ∧ 0 < st ∧ stageP rows (ofPs rows k ks) v.1 = st) :=
  walk_main G hv ks (ps0 k) 1 v (at0 G hv h) hv hk (Nat.le_refl 1)
theorem of_walk2 {rows : List Rec} (G : Good rows) {k : Str} {v : Str × Int} (hv : V2 rows v) (h : k ≠ "?" → v.1 = k) (ks : List Str) (hk : ∀ a ∈ ks, KOk rows a) :
    stageP rows (ofPs rows k ks) v.1 = (walked rows 1 ks v).1 ∧ leadP rows (ofPs rows k ks) v.1 v.2 = (walked rows 1 ks v).2 ∧ ((walked rows 1 ks v).1 = 0 → ∃ w, (walked rows 1 ks v).2 = some w ∧ V2 rows w) ∧ (∀ w, (walked rows 1 ks v).2 = some w → (walked rows 1 ks v).1 = 0 ∧ V2 rows w) := by
  rcases of_walk G hv h ks hk with ⟨w, e, a, vw⟩ | ⟨st, e, p, s⟩
  · obtain ⟨s1, s2⟩ := at_lead a
    rw [e]
    exact ⟨s1, s2, fun _ => ⟨w, rfl, vw⟩, fun w' e => by cases e; exact ⟨rfl, vw⟩⟩
  · rw [e]
    refine ⟨s, ?_, fun z => absurd z (by show ¬ st = 0; omega), fun w e => by cases e⟩
    unfold leadP
    rw [if_pos (by omega)]
/-- the index does not touch the end -/
theorem walked_ix {rows : List Rec} : ∀ (ks : List Str) (i j : Nat) (v : Str × Int), (walked rows i ks v).2 = (walked rows j ks v).2
  | [], i, j, v => rfl
  | k :: ks, i, j, v => by
    show (match ledK rows v k with | none => (i, none) | some w => walked rows (i + 1) ks w).2 = (match ledK rows v k with | none => (j, none) | some w => walked rows (j + 1) ks w).2
    cases ledK rows v k with
    | none => rfl
    | some w => exact walked_ix ks (i + 1) (j + 1) w
theorem walked_app {rows : List Rec} : ∀ (as bs : List Str) (i : Nat) (v : Str × Int), (walked rows i (as ++ bs) v).2 = (walked rows i as v).2.bind fun w => (walked rows 1 bs w).2
  | [], bs, i, v => walked_ix bs i 1 v
  | k :: ks, bs, i, v => by
    show (match ledK rows v k with | none => (i, none) | some w => walked rows (i + 1) (ks ++ bs) w).2 = ((match ledK rows v k with | none => (i, none) | some w => walked rows (i + 1) ks w).2).bind _
    cases ledK rows v k with
    | none => rfl
    | some w => exact walked_app ks bs (i + 1) w
theorem ledK_some {rows : List Rec} (G : Good rows) {v w : Str × Int} {k : Str} (hv : V2 rows v) (h : ledK rows v k = some w) : V2 rows w ∧ (k ≠ "?" → w.1 = k ∧ led rows v.1 v.2 k = some w.2) ∧ (k = "?" → w = v) := by
  unfold ledK at h
  by_cases e : k = "?"
  · rw [if_pos e] at h
    cases h
    exact ⟨hv, fun z => absurd e z, fun _ => rfl⟩
  · rw [if_neg e] at h
    obtain ⟨j, e1, e2⟩ := Option.map_eq_some_iff.mp h
    cases e2
    exact ⟨(led_mem G hv e1).2, fun _ => ⟨rfl, e1⟩, fun z => absurd z e⟩
theorem walked_last {rows : List Rec} (G : Good rows) : ∀ (ks : List Str) (i : Nat) (k0 : Str) (v w : Str × Int), V2 rows v → (k0 ≠ "?" → v.1 = k0) → (walked rows i ks v).2 = some w → V2 rows w ∧ ((k0 :: ks).getLast (by simp) ≠ "?" → w.1 = (k0 :: ks).getLast (by simp))
  | [], i, k0, v, w, hv, h, e => by
    cases e
    exact ⟨hv, h⟩
  | k :: ks, i, k0, v, w, hv, h, e => by
    have e : (match ledK rows v k with | none => (i, none) | some w => walked rows (i + 1) ks w).2 = some w := e
    cases hl : ledK rows v k with
    | none => rw [hl] at e; cases e
    | some u =>
      rw [hl] at e
      obtain ⟨a, b, c⟩ := ledK_some G hv hl
      exact walked_last G ks (i + 1) k u w a (fun z => (b z).1) e
theorem behind_pos {b s : Nat} : 0 < behind b s ↔ 0 < s := by
  unfold behind
  split <;> omega
theorem pg_of {rows : List Rec} (k : Str) (ks : List Str) : PG (ofPs rows k ks) := pg_fold ks (pg0 k) (Nat.le_refl 1)
/-- joined passages lead one behind the other -/
theorem join_lead {rows : List Rec} (G : Good rows) (b : Nat) {P Q : Ps} (gp : PG P) (gq : PG Q) {v : Str × Int} (hv : V2 rows v) {a c : Option (Str × Int)}
    (hP : (∃ w, a = some w ∧ At rows v P w ∧ V2 rows w ∧ ((∃ u, c = some u ∧ At rows w Q u) ∨ (c = none ∧ 0 < stageP rows Q w.1))) ∨ (a = none ∧ c = none ∧ 0 < stageP rows P v.1)) :
    leadP rows (joinP rows b P Q) v.1 v.2 = c := by
  rcases hP with ⟨w, rfl, ⟨f0, hg, hr⟩, hw, hq⟩ | ⟨rfl, rfl, hs⟩
  · have nf : ¬ 0 < P.fail := by omega
    -- the stage behind
    have key : (0 < stageP rows (joinP rows b P Q) v.1 ↔ 0 < stageP rows Q w.1) ∧ (stageP rows Q w.1 = 0 → ∀ u, At rows w Q u → leadP rows (joinP rows b P Q) v.1 v.2 = some u) := by
      cases hrr : P.reached with
      | none =>
        rw [hrr] at hr
        obtain ⟨rfl, hgn⟩ := hr
        have ej : joinP rows b P Q = ⟨Q.gate, behind b Q.gs, Q.reached, behind b Q.fail⟩ := by unfold joinP; rw [if_neg nf, hrr]
        have e1 : 0 < stageP rows (joinP rows b P Q) w.1 ↔ 0 < stageP rows Q w.1 := by
          rw [ej]
          unfold stageP
          cases Q.gate with
          | none => exact behind_pos
          | some g => simp only; split <;> exact behind_pos
        refine ⟨e1, fun h0 u hu => ?_⟩
        have := (at_lead hu).2
        rw [← this]
        unfold leadP
        rw [if_neg (by rw [e1]; omega), if_neg (by omega), ej]
      | some r =>
        rw [hrr] at hr
        obtain ⟨rfl, hl⟩ := hr
        have sj : ∀ (R : Option Str) (f : Nat), stageP rows ⟨P.gate, P.gs, R, f⟩ v.1 = f := by
          intro R f
          unfold stageP
          cases hgg : P.gate with
          | none => rfl
          | some g => rw [hgg] at hg; simp only; rw [if_pos hg]
        have fin : ∀ q2 : Option Str, Q.reached = q2 → joinP rows b P Q = ⟨P.gate, P.gs, (match q2 with | none => some w.1 | some q => some q), behind b Q.fail⟩ → stageP rows Q w.1 = Q.fail → (0 < stageP rows (joinP rows b P Q) v.1 ↔ 0 < stageP rows Q w.1) ∧ (stageP rows Q w.1 = 0 → ∀ u, At rows w Q u → leadP rows (joinP rows b P Q) v.1 v.2 = some u) := by
          intro q2 eq2 ej es
          have e1 : 0 < stageP rows (joinP rows b P Q) v.1 ↔ 0 < stageP rows Q w.1 := by rw [ej, sj, es]; exact behind_pos
          refine ⟨e1, fun h0 u hu => ?_⟩
          unfold leadP
          rw [if_neg (by rw [e1]; omega), ej]
          obtain ⟨u1, u2, u3⟩ := hu
          cases q2 with
          | none =>
            rw [eq2] at u3
            obtain ⟨rfl, _⟩ := u3
            simp only
            rw [hl]
            rfl
          | some q =>
            rw [eq2] at u3
            obtain ⟨rfl, l2⟩ := u3
            simp only
            rw [led_on G hv hl l2]
            rfl
        cases hqg : Q.gate with
        | none =>
          refine fin Q.reached rfl ?_ (by unfold stageP; rw [hqg])
          unfold joinP; rw [if_neg nf, hrr, hqg]
          all_goals (cases Q.reached <;> rfl)
        | some g =>
          by_cases hc : g ∈ chain rows w.1
          · refine fin Q.reached rfl ?_ (by unfold stageP; rw [hqg]; simp only; rw [if_pos hc])
            unfold joinP; rw [if_neg nf, hrr, hqg]; simp only; rw [if_pos hc]
            all_goals (cases Q.reached <;> rfl)
          · have ej : joinP rows b P Q = ⟨P.gate, P.gs, some w.1, behind b Q.gs⟩ := by
              unfold joinP; rw [if_neg nf, hrr, hqg]; simp only; rw [if_neg hc]
            have es : stageP rows Q w.1 = Q.gs := by unfold stageP; rw [hqg]; simp only; rw [if_neg hc]
            have pos := gq.gs (by rw [hqg]; simp)
            refine ⟨by rw [ej, sj, es]; exact behind_pos, fun h0 => by omega⟩
    rcases hq with ⟨u, rfl, hu⟩ | ⟨rfl, hs⟩
    · exact key.2 (at_lead hu).1 u hu
    · unfold leadP; rw [if_pos (key.1.mpr hs)]
  · have sp : 0 < stageP rows (joinP rows b P Q) v.1 := by
      by_cases hf : 0 < P.fail
      · have : joinP rows b P Q = P := by unfold joinP; rw [if_pos hf]
        rw [this]; exact hs
      · cases hg : P.gate with
        | none => unfold stageP at hs; rw [hg] at hs; exact absurd hs hf
        | some g =>
          have hne := gp.gr (by rw [hg]; simp)
          have hpos := gp.gs (by rw [hg]; simp)
          unfold stageP at hs
          rw [hg] at hs
          simp only at hs
          by_cases hc : g ∈ chain rows v.1
          · rw [if_pos hc] at hs; exact absurd hs hf
          · cases hr : P.reached with
            | none => exact absurd hr hne
            | some r =>
              have : ∃ R f, joinP rows b P Q = ⟨P.gate, P.gs, R, f⟩ := by
                unfold joinP
                rw [if_neg hf, hr]
                cases hqg : Q.gate with
                | none => exact ⟨_, _, rfl⟩
                | some g2 =>
                  simp only
                  by_cases h2 : g2 ∈ chain rows r
                  · rw [if_pos h2]; exact ⟨_, _, rfl⟩
                  · rw [if_neg h2]; exact ⟨_, _, rfl⟩
              obtain ⟨R, f, ej⟩ := this
              rw [ej]
              unfold stageP
              simp only [hg]
              rw [if_neg hc]
              exact hpos
    unfold leadP; rw [if_pos sp]
/-- a sequence put together from two parts -/
theorem parts_lead {rows : List Rec} (G : Good rows) {k : Str} {v : Str × Int} (hv : V2 rows v) (h : k ≠ "?" → v.1 = k) (as : List Str) (k2 : Str) (bs : List Str) (hk2 : (k :: as).getLast (by simp) = k2) (ha : ∀ a ∈ as, KOk rows a) (hb : ∀ a ∈ bs, KOk rows a) (b : Nat) :
    leadP rows (joinP rows b (ofPs rows k as) (ofPs rows k2 bs)) v.1 v.2 = (walked rows 1 (as ++ bs) v).2 := by
  rw [walked_app]
  refine join_lead G b (pg_of k as) (pg_of k2 bs) hv (a := (walked rows 1 as v).2) ?_
  rcases of_walk G hv h as ha with ⟨w, e, a, vw⟩ | ⟨st, e, p, s⟩
  · rw [e]
    refine .inl ⟨w, rfl, a, vw, ?_⟩
    have wl := (walked_last G as 1 k v w hv h (by rw [e])).2
    rw [hk2] at wl
    rcases of_walk G vw wl bs hb with ⟨u, e2, a2, vu⟩ | ⟨st, e2, p2, s2⟩
    · exact .inl ⟨u, by show (walked rows 1 bs w).2 = _; rw [e2], a2⟩
    · exact .inr ⟨by show (walked rows 1 bs w).2 = _; rw [e2], by omega⟩
  · rw [e]
    exact .inr ⟨rfl, rfl, by omega⟩
/-! ### less told -/
def lastT : Str → List Str → Str
  | a, [] => a
  | a, k :: ks => lastT (if k = "?" then a else k) ks
inductive Less : List Str → List Str → Prop
  | nil : Less [] []
  | un (k : Str) {ks ls : List Str} : Less ks ls → Less (k :: ks) ("?" :: ls)
  | eq (k : Str) {ks ls : List Str} : Less ks ls → Less (k :: ks) (k :: ls)
theorem walked_cons {rows : List Rec} {i : Nat} {k : Str} {ks : List Str} {v w : Str × Int} (h : (walked rows i (k :: ks) v).2 = some w) : ∃ u, ledK rows v k = some u ∧ (walked rows (i + 1) ks u).2 = some w := by
  have e : (match ledK rows v k with | none => (i, none) | some w => walked rows (i + 1) ks w).2 = some w := h
  cases hl : ledK rows v k with
  | none => rw [hl] at e; cases e
  | some u => rw [hl] at e; exact ⟨u, rfl, e⟩
theorem walked_at {rows : List Rec} {i : Nat} {k : Str} {ks : List Str} {v u : Str × Int} (h : ledK rows v k = some u) : walked rows i (k :: ks) v = walked rows (i + 1) ks u := by
  show (match ledK rows v k with | none => (i, none) | some w => walked rows (i + 1) ks w) = _
  rw [h]
theorem ledK_un {rows : List Rec} {v : Str × Int} {k : Str} (h : k = "?") : ledK rows v k = some v := by unfold ledK; rw [if_pos h]
theorem less_walk {rows : List Rec} (G : Good rows) {ks ls : List Str} (hl : Less ks ls) : ∀ (i j : Nat) (o n o' : Str × Int), V2 rows o → V2 rows n → led rows n.1 n.2 o.1 = some o.2 → (walked rows i ks o).2 = some o' → ∃ n', (walked rows j ls n).2 = some n' ∧ V2 rows n' ∧ V2 rows o' ∧ led rows n'.1 n'.2 o'.1 = some o'.2 := by
  induction hl with
  | nil => intro i j o n o' ho hn h e; cases e; exact ⟨n, rfl, hn, ho, h⟩
  | un k hl ih =>
    intro i j o n o' ho hn h e
    obtain ⟨u, e1, e2⟩ := walked_cons e
    obtain ⟨a, b, c⟩ := ledK_some G ho e1
    rw [walked_at (ledK_un rfl)]
    refine ih (i + 1) (j + 1) u n o' a hn ?_ e2
    by_cases ek : k = "?"
    · rw [c ek]; exact h
    · obtain ⟨b1, b2⟩ := b ek
      rw [b1]
      exact led_on G hn h b2
  | eq k hl ih =>
    intro i j o n o' ho hn h e
    obtain ⟨u, e1, e2⟩ := walked_cons e
    obtain ⟨a, b, c⟩ := ledK_some G ho e1
    by_cases ek : k = "?"
    · rw [walked_at (ledK_un ek)]
      refine ih (i + 1) (j + 1) u n o' a hn ?_ e2
      rw [c ek]; exact h
    · obtain ⟨b1, b2⟩ := b ek
      have l2 := led_on G hn h b2
      have en : ledK rows n k = some u := by
        unfold ledK; rw [if_neg ek, l2, ← b1]; rfl
      rw [walked_at en]
      exact ih (i + 1) (j + 1) u u o' a a (led_self G a) e2
theorem last_walk {rows : List Rec} (G : Good rows) {v0 : Str × Int} : ∀ (ks : List Str) (i : Nat) (a : Str) (v w : Str × Int), V2 rows v → (a = "?" → v = v0) → (a ≠ "?" → v.1 = a) → (walked rows i ks v).2 = some w → (lastT a ks = "?" → w = v0) ∧ (lastT a ks ≠ "?" → w.1 = lastT a ks)
  | [], i, a, v, w, hv, h1, h2, e => by cases e; exact ⟨h1, h2⟩
  | k :: ks, i, a, v, w, hv, h1, h2, e => by
    obtain ⟨u, e1, e2⟩ := walked_cons e
    obtain ⟨x, y, z⟩ := ledK_some G hv e1
    unfold lastT
    by_cases ek : k = "?"
    · rw [if_pos ek]
      have := z ek
      subst this
      exact last_walk G ks (i + 1) a u w hv h1 h2 e2
    · rw [if_neg ek]
      exact last_walk G ks (i + 1) k u w x (fun t => absurd t ek) (fun _ => (y ek).1) e2
theorem last_un : ∀ (ks : List Str) (a : Str), lastT a ks = "?" → a = "?" ∧ ∀ k ∈ ks, k = "?"
  | [], a, h => ⟨h, fun k hk => by cases hk⟩
  | k :: ks, a, h => by
    unfold lastT at h
    by_cases ek : k = "?"
    · rw [if_pos ek] at h
      obtain ⟨x, y⟩ := last_un ks a h
      exact ⟨x, fun l hl => by rcases List.mem_cons.mp hl with rfl | hl; exact ek; exact y l hl⟩
    · rw [if_neg ek] at h
      exact absurd (last_un ks k h).1 ek
theorem last_all : ∀ (ks : List Str), (∀ k ∈ ks, k = "?") → lastT "?" ks = "?"
  | [], h => rfl
  | k :: ks, h => by
    unfold lastT
    rw [if_pos (h k List.mem_cons_self)]
    exact last_all ks fun a ha => h a (List.mem_cons_of_mem _ ha)
theorem less_un {ks ls : List Str} (h : Less ks ls) : (∀ k ∈ ks, k = "?") → ∀ k ∈ ls, k = "?" := by
  induction h with
  | nil => exact fun _ => fun k hk => by cases hk
  | un k h ih =>
    intro a l hl
    rcases List.mem_cons.mp hl with rfl | hl
    · rfl
    · exact ih (fun b hb => a b (List.mem_cons_of_mem _ hb)) l hl
  | eq k h ih =>
    intro a l hl
    rcases List.mem_cons.mp hl with rfl | hl
    · exact a _ List.mem_cons_self
    · exact ih (fun b hb => a b (List.mem_cons_of_mem _ hb)) l hl
theorem less_len {ks ls : List Str} (h : Less ks ls) : ls.length = ks.length := by
  induction h with
  | nil => rfl
  | un k h ih => simp [ih]
  | eq k h ih => simp [ih]
theorem less_ok {rows : List Rec} {ks ls : List Str} (h : Less ks ls) : (∀ k ∈ ks, KOk rows k) → ∀ k ∈ ls, KOk rows k := by
  induction h with
  | nil => exact fun _ => fun k hk => by cases hk
  | un k h ih =>
    intro a l hl
    rcases List.mem_cons.mp hl with rfl | hl
    · exact .inl rfl
    · exact ih (fun b hb => a b (List.mem_cons_of_mem _ hb)) l hl
  | eq k h ih =>
    intro a l hl
    rcases List.mem_cons.mp hl with rfl | hl
    · exact a _ List.mem_cons_self
    · exact ih (fun b hb => a b (List.mem_cons_of_mem _ hb)) l hl
theorem less_adj {rows : List Rec} {ks ls : List Str} (h : Less ks ls) : ∀ (k l : Str), (l = k ∨ l = "?") → Adj rows (k :: ks) → Adj rows (l :: ls) := by
  induction h with
  | nil => intro k l _ _; trivial
  | un k2 h ih =>
    intro k l e ⟨a1, a2⟩
    exact ⟨.inr (.inl rfl), ih k2 "?" (.inr rfl) a2⟩
  | eq k2 h ih =>
    intro k l e ⟨a1, a2⟩
    refine ⟨?_, ih k2 k2 (.inl rfl) a2⟩
    rcases e with rfl | rfl
    · exact a1
    · exact .inl rfl
theorem adj_take {rows : List Rec} : ∀ (n : Nat) (ks : List Str), Adj rows ks → Adj rows (ks.take n)
  | 0, _, _ => trivial
  | n + 1, [], _ => trivial
  | n + 1, [a], _ => by cases n <;> trivial
  | 0 + 1, a :: b :: t, _ => trivial
  | n + 1 + 1, a :: b :: t, ⟨h1, h2⟩ => ⟨h1, adj_take (n + 1) (b :: t) h2⟩
theorem adj_tail {rows : List Rec} : ∀ (ks : List Str), Adj rows ks → Adj rows ks.tail
  | [], _ => trivial
  | [a], _ => trivial
  | a :: b :: t, ⟨h1, h2⟩ => h2
theorem adj_drop {rows : List Rec} : ∀ (n : Nat) (ks : List Str), Adj rows ks → Adj rows (ks.drop n)
  | 0, ks, h => by simpa using h
  | n + 1, [], _ => by simp; trivial
  | n + 1, a :: t, h => by
    have := adj_drop n t (adj_tail _ h)
    simpa using this
theorem adj_snoc {rows : List Rec} : ∀ (ks : List Str) (a b : Str), Adj rows (ks ++ [a]) → (a = "?" ∨ b = "?" ∨ b ∈ chain rows a) → Adj rows (ks ++ [a] ++ [b])
  | [], a, b, _, h => ⟨h, trivial⟩
  | [k], a, b, ⟨h1, _⟩, h => ⟨h1, h, trivial⟩
  | k :: l :: t, a, b, ⟨h1, h2⟩, h => ⟨h1, adj_snoc (l :: t) a b h2 h⟩
end Den
set_option Elab.async false
set_option linter.all false
set_option maxRecDepth 100000
set_option autoImplicit false
set_option maxHeartbeats 1000000
namespace Den
open PySem L2
/-! ### the law's sequences -/
def menuOf (rows : List Rec) (x : Str) : List Str := (if x = "?" then names rows else chain rows x) ++ [("?" : Str)]
theorem menu_len {rows : List Rec} (G : Good rows) {x : Str} (hx : KOk rows x) : 1 ≤ (menuOf rows x).length ∧ (menuOf rows x).length ≤ 6 := by
  unfold menuOf
  by_cases e : x = "?"
  · rw [if_pos e]; have := G.le; simp [names]; omega
  · rw [if_neg e]; have := chain_len G (hx.resolve_left e); simp; omega
theorem menu_mem {rows : List Rec} (G : Good rows) {x y : Str} (hx : KOk rows x) (h : y ∈ menuOf rows x) : KOk rows y ∧ (x = "?" ∨ y = "?" ∨ y ∈ chain rows x) := by
  unfold menuOf at h
  rcases List.mem_append.mp h with h | h
  · by_cases e : x = "?"
    · rw [if_pos e] at h; exact ⟨.inr h, .inl e⟩
    · rw [if_neg e] at h
      have xm := hx.resolve_left e
      exact ⟨.inr (chain_mem G xm h), .inr (.inr h)⟩
  · have := List.mem_singleton.mp h
    exact ⟨.inl this, .inr (.inl this)⟩
def sqS (rows : List Rec) (b c : Int) (ds : List Int) (K : List Str) (x : Str) (menu e f : Option SV) : S := ⟨[some (.bor 0), some (.shr (.lst (rows.map Rec.d))), some (.shr (.int b)), some (.shr (.int c)), menu, some (.shr (.str x)), some (.own (.lst (K.map .str))), e, f], [.lst (ds.map .int)]⟩
abbrev sqBody : List C := match I_L_sequence.body with
  | [_, _, _, .for _ _ b _, _] => b
  | _ => []
theorem names_comp (n : Nat) {rows : List Rec} (G : Good rows) (s : S) (o : Out (List D)) (hl : s.looks [.at 1] = some [.lst (rows.map Rec.d)])
    (h : compRun (compStep (Pr.env n) [8] (.nm 8) .tru (.op .ix (.cons (.var 8) (.cons (.int 0) .nil)))) (looksB [.at 1] [.lst (rows.map Rec.d)]) (rows.map Rec.d) [] s = o) (hs : ∀ r ∈ rows, compStep (Pr.env n) [8] (.nm 8) .tru (.op .ix (.cons (.var 8) (.cons (.int 0) .nil))) s r.d = .ok (some (.str r.nm)) s) : o = .ok ((names rows).map .str) s := by
  have := comp_map h (fun r : Rec => D.str r.nm) (by simp [looksB_k, hl]) hs (by have := G.le; unfold lim; omega)
  rw [this]
  unfold names
  rw [List.map_map]
  rfl
theorem seq_step (n : Nat) {rows : List Rec} (G : Good rows) (b c : Int) (ds : List Int) (K : List Str) (x : Str) (hx : KOk rows x) (hK : K.length < lim) (j : Int) :
    ∃ y ds' menu e, KOk rows y ∧ (x = "?" ∨ y = "?" ∨ y ∈ chain rows x) ∧ forStep (Pr.env (n+2)) (.nm 7) sqBody (sqS rows b c ds K x none none none) (.int j) = .nx (sqS rows b c ds' (K ++ [y]) y menu e none) := by
  obtain ⟨l1, l2⟩ := menu_len G hx
  have le : ∃ B : List Str, (if x = "?" then names rows else chain rows x) = B := ⟨_, rfl⟩
  obtain ⟨B, hB⟩ := le
  have em : menuOf rows x = B ++ [("?" : Str)] := by unfold menuOf; rw [hB]
  have el : ((menuOf rows x).length : Int) = (B.length : Int) + 1 := by rw [em]; simp
  obtain ⟨v, ds1, v1, v2, d1⟩ := draw_ex (n+1) ds ((B.length : Int) + 1) (by omega)
  have m0 : (B.length : Int) + 1 ≠ 0 := by omega
  have m1 : (0 : Int) < (B.length : Int) + 1 := by omega
  obtain ⟨y, e1, ym⟩ := ixI_in (xs := menuOf rows x) (Int.emod_nonneg (v + j) m0) (by rw [el]; exact Int.emod_lt_of_pos (v + j) m1)
  have e2 : ixI (B.map D.str ++ [.str "?"]) ((v + j) % ((B.length : Int) + 1)) = some (.str y) := by
    have : (B.map D.str ++ [.str "?"]) = (menuOf rows x).map D.str := by rw [em]; simp
    rw [this, ixI_map, e1]; rfl
  obtain ⟨k1, k2⟩ := menu_mem G hx ym
  have bl : B.length + 1 ≤ lim := by unfold lim; rw [em] at l2; simp at l2; omega
  refine ⟨y, ds1, some (.shr (.lst (B.map .str ++ [.str "?"]))), some (.shr (.int j)), k1, k2, ?_⟩
  by_cases ex : x = "?"
  · rw [if_pos ex] at hB
    simp [sqS, sqBody, I_L_sequence, fstep_k, ex]
    generalize ho : compRun _ _ _ _ _ = o
    have := names_comp (n+2) G _ o (by rfl) ho (fun r hr => by simp [step_k, Rec.d, ix0])
    subst this
    subst hB
    simp [d1, e2, bl, hK, m1]
  · rw [if_neg ex] at hB
    simp [sqS, sqBody, I_L_sequence, fstep_k, ex]
    generalize ho : compRun _ _ _ _ _ = o
    have := names_comp (n+2) G _ o (by rfl) ho (fun r hr => by simp [step_k, Rec.d, ix0])
    subst this
    have nl : (names rows).length + 1 ≤ lim := by have := G.le; unfold lim names; simp; omega
    have ch := lchain_ok n G (hx.resolve_left ex)
    rw [hB] at ch
    unfold rowsD at ch
    simp [d1, e2, bl, hK, m1, nl, ch, ex]
theorem seq_ok (n : Nat) {rows : List Rec} (G : Good rows) (ds : List Int) (b : Nat) (hb : b ≤ 5) (c : Int) (hc : 0 ≤ c ∧ c < 2) :
    ∃ (k : Str) (kt : List Str) (ds' : List Int), kt.length = b ∧ (∀ a ∈ k :: kt, KOk rows a) ∧ Adj rows (k :: kt) ∧ Pr.call (n+3) F.L_sequence [.bor (.lst (ds.map .int)), .val (rowsD rows), .val (.int b), .val (.int c)] = .ret (.own (.lst ((k :: kt).map .str))) [.lst (ds'.map .int)] := by
  rw [call_L_sequence]
  have em : menuOf rows "?" = names rows ++ [("?" : Str)] := by unfold menuOf; rw [if_pos rfl]
  obtain ⟨l1, l2⟩ := menu_len G (x := "?") (.inl rfl)
  have el : ((menuOf rows "?").length : Int) = ((names rows).length : Int) + 1 := by rw [em]; simp
  obtain ⟨v, ds1, v1, v2, d1⟩ := draw_ex (n+1) ds (((names rows).length : Int) + 1) (by omega)
  have m0 : ((names rows).length : Int) + 1 ≠ 0 := by omega
  have m1 : (0 : Int) < ((names rows).length : Int) + 1 := by omega
  obtain ⟨x, e1, xm⟩ := ixI_in (xs := menuOf rows "?") (Int.emod_nonneg (v + 2 * c) m0) (by rw [el]; exact Int.emod_lt_of_pos (v + 2 * c) m1)
  have e2 : ixI ((names rows).map D.str ++ [.str "?"]) ((v + 2 * c) % (((names rows).length : Int) + 1)) = some (.str x) := by
    have : ((names rows).map D.str ++ [.str "?"]) = (menuOf rows "?").map D.str := by rw [em]; simp
    rw [this, ixI_map, e1]; rfl
  obtain ⟨k1, _⟩ := menu_mem G (.inl rfl) xm
  have nl : (names rows).length + 1 ≤ lim := by have := G.le; unfold lim names; simp; omega
  have mg : mulG 2 c = true := by unfold mulG; simp
  have z1 : (b : Int) < 4611686018427387904 := by omega
  have z2 : (-4611686018427387904 : Int) ≤ b := by omega
  have z3 : b < 4611686018427387904 := by omega
  simp [runF, I_L_sequence, rowsD]
  generalize ho : compRun _ _ _ _ _ = o
  have := names_comp (n+2) G _ o (by rfl) ho (fun r hr => by simp [step_k, Rec.d, ix0])
  subst this
  simp [d1, e2, nl, m1, mg, z1, z2, z3]
  generalize hf : forRun _ _ _ _ _ = o
  have := for_thru hf (fun pre s => ∃ (K : List Str) (y : Str) (ds : List Int) (menu e : Option SV), K.length = pre.length ∧ (∀ a ∈ K ++ [y], KOk rows a) ∧ Adj rows (K ++ [y]) ∧ s = sqS rows b c ds (K ++ [y]) y menu e none)
    ⟨[], x, ds1, some (.shr (.lst ((names rows).map D.str ++ [.str "?"]))), none, rfl, fun a ha => (by rw [List.mem_singleton.mp ha]; exact k1), trivial, rfl⟩ (fun pre s ⟨K, y, ds, m, e, _, _, _, h⟩ => by subst h; simp [sqS, looksB_k]) (fun pre j post s hj ⟨K, y, ds, m, e, q1, q2, q3, h⟩ => by
      subst h
      obtain ⟨rfl, hlt⟩ := range_split hj
      obtain ⟨y', ds', m', e', a1, a2, st⟩ := seq_step n G b c ds (K ++ [y]) y (q2 y (by simp)) (by unfold lim; simp; omega) (pre.length : Nat)
      refine ⟨_, st, K ++ [y], y', ds', m', e', by simp [q1], ?_, adj_snoc K y y' q3 a2, rfl⟩
      intro a ha
      rcases List.mem_append.mp ha with ha | ha
      · exact q2 a ha
      · rw [List.mem_singleton.mp ha]; exact a1)
  obtain ⟨s', rfl, K, y, ds', m, e, q1, q2, q3, rfl⟩ := this
  have : ∃ k kt, K ++ [y] = k :: kt := by cases K with
    | nil => exact ⟨_, _, rfl⟩
    | cons a K => exact ⟨_, _, rfl⟩
  obtain ⟨k, kt, ek⟩ := this
  rw [ek] at q2 q3
  refine ⟨k, kt, ?_⟩
  refine ⟨?_, ⟨q2 k List.mem_cons_self, fun a h => q2 a (List.mem_cons_of_mem _ h)⟩, q3, ds', ?_⟩
  · have := congrArg List.length ek
    simp at this q1
    omega
  · rw [ek]
    simp [sqS]
/-! ### walked -/
def wkS (rows : List Rec) (K : List Str) (d : D) (e : Option SV) : S := ⟨[some (.shr (rowsD rows)), some (.shr (.lst (K.map .str))), some (.shr d), e], []⟩
abbrev wkBody : List C := match I_L_walked.body with
  | [.for _ _ b _, _] => b
  | _ => []
theorem led_any2 (n : Nat) {rows : List Rec} (G : Good rows) {k : Str} (hk : KOk rows k) {v : Str × Int} (hv : V2 rows v) : Pr.call (n+2) F.L_led [.val (rowsD rows), .val (pD v), .val (.str k)] = .ret (.shr (ovD (ledK rows v k))) [] := by
  unfold ledK
  by_cases e : k = "?"
  · rw [if_pos e, e]; exact lled_any n (pD v)
  · rw [if_neg e]
    have := lled_ok n G hv e
    have lo : ovD ((led rows v.1 v.2 k).map fun j => (k, j)) = ledD k (led rows v.1 v.2 k) := by cases led rows v.1 v.2 k <;> rfl
    rw [lo]
    exact this
theorem walk_loop (n : Nat) {rows : List Rec} (G : Good rows) (K : List Str) (hK : ∀ a ∈ K, KOk rows a) (ps : List PV) (ds : List D) (hok : ∀ d e, ((wkS rows K d e).looks ps = some ds)) : ∀ (ks : List Str) (i : Nat) (w : Str × Int) (e : Option SV), K.drop i = ks → V2 rows w →
    (∃ u, walked rows i ks w = (0, some u) ∧ V2 rows u ∧ forRun (forStep (Pr.env (n+2)) (.nm 3) wkBody) (looksB ps ds) [3] ((List.range' i ks.length).map fun j : Nat => D.int j) (wkS rows K (pD w) e) = .nx (wkS rows K (pD u) none)) ∨
    (∃ st s', walked rows i ks w = (st, none) ∧ forRun (forStep (Pr.env (n+2)) (.nm 3) wkBody) (looksB ps ds) [3] ((List.range' i ks.length).map fun j : Nat => D.int j) (wkS rows K (pD w) e) = .rt (.shr (.tup [.int st, .non])) s' ∧ s'.bs = [])
  | [], i, w, e, hd, hw => by
    refine .inl ⟨w, rfl, hw, ?_⟩
    show forRun _ _ _ [] _ = _
    rw [forRun_nil, if_pos (by simp [looksB_k, hok])]
    simp [wkS]
  | k :: ks, i, w, e, hd, hw => by
    have e1 : K[i]? = some k := by
      have := congrArg (fun z => z[0]?) hd
      simpa using this
    have km : KOk rows k := hK k (List.mem_of_getElem? e1)
    have e2 : ixI (K.map D.str) ((i : Nat) : Int) = some (.str k) := by rw [ixI_nat, List.getElem?_map, e1]; rfl
    have l := led_any2 n G km hw
    have hd2 : K.drop (i + 1) = ks := by rw [← List.drop_drop, hd]; rfl
    show _ ∨ ∃ st s', _ ∧ forRun _ _ _ (((i :: List.range' (i + 1) ks.length)).map _) _ = _ ∧ _
    show (∃ u, _ ∧ _ ∧ forRun _ _ _ (((i :: List.range' (i + 1) ks.length)).map _) _ = _) ∨ _
    rw [List.map_cons, forRun_cons, if_pos (by simp [looksB_k, hok])]
    cases hl : ledK rows w k with
    | none =>
      rw [hl] at l
      refine .inr ⟨i, ⟨[some (.shr (rowsD rows)), some (.shr (.lst (K.map .str))), some (.shr .non), some (.shr (.int i))], []⟩, ?_, ?_, rfl⟩
      · show (match ledK rows w k with | none => (i, none) | some w => walked rows (i + 1) ks w) = _
        rw [hl]
      · have st : forStep (Pr.env (n+2)) (.nm 3) wkBody ((wkS rows K (pD w) e).wipe [3]) (.int (i : Nat)) = .rt (.shr (.tup [.int i, .non])) ⟨[some (.shr (rowsD rows)), some (.shr (.lst (K.map .str))), some (.shr .non), some (.shr (.int i))], []⟩ := by
          simp [wkS, fstep_k, wkBody, I_L_walked, e2, l, ovD, lim]
        rw [st]
        rfl
    | some u =>
      rw [hl] at l
      have st : forStep (Pr.env (n+2)) (.nm 3) wkBody ((wkS rows K (pD w) e).wipe [3]) (.int (i : Nat)) = .nx (wkS rows K (pD u) (some (.shr (.int i)))) := by
        have : ovD (some u) = pD u := rfl
        rw [this] at l
        simp only [pD, vD] at l
        simp [wkS, fstep_k, wkBody, I_L_walked, e2, l, ovD, lim, pD, vD]
      rw [st, loopNext_nx, walked_at hl]
      exact walk_loop n G K hK ps ds hok ks (i + 1) u _ hd2 (ledK_some G hw hl).1
theorem walked_ok (n : Nat) {rows : List Rec} (G : Good rows) (k : Str) (kt : List Str) (hk : ∀ a ∈ k :: kt, KOk rows a) (hl : kt.length ≤ 5) {v : Str × Int} (hv : V2 rows v) :
    Pr.call (n+3) F.L_walked [.val (rowsD rows), .val (.lst ((k :: kt).map .str)), .val (pD v)] = .ret (.shr (.tup [.int (walked rows 1 kt v).1, ovD (walked rows 1 kt v).2])) [] := by
  rw [call_L_walked]
  have z1 : (kt.length : Int) + 1 < 4611686018427387904 := by omega
  have z2 : (-4611686018427387904 : Int) ≤ (kt.length : Int) + 1 := by omega
  have z3 : kt.length + 1 < 4611686018427387904 := by omega
  simp [runF, I_L_walked, z1, z2, z3]
  have er : (List.map (fun k : Nat => D.int (1 + (k : Int))) (List.range kt.length)) = (List.range' 1 kt.length).map fun j : Nat => D.int j := by
    rw [List.range'_eq_map_range, List.map_map]
    apply List.map_congr_left
    intro a _
    simp
  rw [er]
  generalize hf : forRun _ _ _ _ _ = o
  have go : ∀ (ps : List PV) (ds : List D) (o : O), (∀ d e, ((wkS rows (k :: kt) d e).looks ps = some ds)) → forRun (forStep (Pr.env (n+2)) (.nm 3) wkBody) (looksB ps ds) [3] ((List.range' 1 kt.length).map fun j : Nat => D.int j) (wkS rows (k :: kt) (pD v) none) = o →
      (∃ u, walked rows 1 kt v = (0, some u) ∧ V2 rows u ∧ o = .nx (wkS rows (k :: kt) (pD u) none)) ∨ (∃ st s', walked rows 1 kt v = (st, none) ∧ o = .rt (.shr (.tup [.int st, .non])) s' ∧ s'.bs = []) := by
    intro ps ds o hok ho
    subst ho
    exact walk_loop n G (k :: kt) hk ps ds hok kt 1 v none rfl hv
  rcases go _ _ o (fun d e => by rfl) hf with ⟨u, a, b, c⟩ | ⟨st, s', a, c, d⟩
  · have := c
    subst this
    rw [a]
    simp [wkS, ovD, pD, lim]
  · have := c
    subst this
    rw [a]
    simp [d, ovD]
end Den
set_option Elab.async false
set_option linter.all false
set_option maxRecDepth 100000
set_option autoImplicit false
set_option maxHeartbeats 1000000
namespace Den
open PySem L2
theorem last_ok (n : Nat) (k : Str) (kt : List Str) : Pr.call (n+1) F.L_last_told [.val (.lst ((k :: kt).map .str))] = .ret (.shr (.str (lastT "?" kt))) [] := by
  rw [call_L_last_told]
  have cT : cutG ((k :: kt).map D.str) (some 1) none = kt.map .str := by rw [cut_tl _ (by simp)]; rfl
  have cT2 : cutG (D.str k :: kt.map D.str) (some 1) none = kt.map .str := cT
  simp [runF, I_L_last_told, cT2]
  generalize hf : forRun _ _ _ _ _ = o
  have := for_thru hf (fun pre s => ∃ (e : Option SV), (∀ post, lastT "?" (pre ++ post) = lastT (lastT "?" pre) post) ∧ s = ⟨[some (.shr (.lst (D.str k :: kt.map .str))), some (.shr (.str (lastT "?" pre))), e], []⟩)
    ⟨none, fun _ => rfl, rfl⟩ (fun pre s ⟨e, _, h⟩ => by subst h; simp [looksB_k, cT2]) (fun pre x post s hx ⟨e, hl, h⟩ => by
      subst h
      have e1 : lastT "?" (pre ++ [x]) = if x = "?" then lastT "?" pre else x := by rw [hl [x]]; rfl
      refine ⟨⟨[some (.shr (.lst (D.str k :: kt.map .str))), some (.shr (.str (lastT "?" (pre ++ [x])))), some (.shr (.str x))], []⟩, ?_, some (.shr (.str x)), ?_, rfl⟩
      · rw [e1]
        by_cases c : x = "?"
        · simp [fstep_k, c]
        · simp [fstep_k, c]
      · intro post
        rw [List.append_assoc, hl, hl]
        rfl)
  obtain ⟨s', rfl, e, _, rfl⟩ := this
  simp
theorem Less.snoc {ks ls : List Str} (h : Less ks ls) (x y : Str) (e : y = x ∨ y = "?") : Less (ks ++ [x]) (ls ++ [y]) := by
  induction h with
  | nil =>
    rcases e with rfl | rfl
    · exact .eq _ .nil
    · exact .un _ .nil
  | un k h ih => exact .un k ih
  | eq k h ih => exact .eq k ih
theorem less_told_ok (n : Nat) (k : Str) (kt : List Str) (hl : kt.length ≤ 5) (b : Int) : ∃ ls : List Str, Less kt ls ∧ Pr.call (n+1) F.L_less_told [.val (.lst ((k :: kt).map .str)), .val (.int b)] = .ret (.own (.lst ((k :: ls).map .str))) [] := by
  rw [call_L_less_told]
  have z1 : (kt.length : Int) + 1 < 4611686018427387904 := by omega
  have z2 : (-4611686018427387904 : Int) ≤ (kt.length : Int) + 1 := by omega
  have z3 : kt.length + 1 < 4611686018427387904 := by omega
  have i0 : ixI (D.str k :: kt.map D.str) 0 = some (.str k) := by have := ixI_nat (D.str k :: kt.map D.str) 0; simpa using this
  simp [runF, I_L_less_told, z1, z2, z3, i0]
  generalize hf : forRun _ _ _ _ _ = o
  have := for_thru hf (fun pre s => ∃ (ls : List Str) (e : Option SV), Less (kt.take pre.length) ls ∧ ls.length = pre.length ∧ s = ⟨[some (.shr (.lst (D.str k :: kt.map .str))), some (.shr (.int b)), some (.own (.lst (D.str k :: ls.map .str))), e], []⟩)
    ⟨[], none, .nil, rfl, rfl⟩ (fun pre s ⟨ls, e, _, _, h⟩ => by subst h; simp [looksB_k]) (fun pre x post s hx ⟨ls, e, q1, q2, h⟩ => by
      subst h
      obtain ⟨rfl, hlt⟩ := range_split hx
      have i1 : ixI (D.str k :: kt.map D.str) (1 + (pre.length : Int)) = some (.str kt[pre.length]) := by
        have := ixI_nat (D.str k :: kt.map D.str) (pre.length + 1)
        rw [show ((pre.length + 1 : Nat) : Int) = 1 + (pre.length : Int) by omega] at this
        rw [this]
        simp [hlt]
      have e9 : (1 + (pre.length : Int) - 1) = pre.length := by omega
      have ln : ls.length + 1 < lim := by unfold lim; omega
      have tk : kt.take (pre ++ [pre.length]).length = kt.take pre.length ++ [kt[pre.length]] := by
        rw [List.length_append, List.length_singleton, List.take_succ_eq_append_getElem hlt]
      by_cases c : Builtin.bitAnd (b / 2 ^ pre.length) 1 = 1
      · refine ⟨⟨[some (.shr (.lst (D.str k :: kt.map .str))), some (.shr (.int b)), some (.own (.lst (D.str k :: (ls ++ [("?" : Str)]).map .str))), some (.shr (.int (1 + (pre.length : Int))))], []⟩, ?_, ls ++ [("?" : Str)], _, ?_, by simp [q2], rfl⟩
        · simp [fstep_k, e9, c, ln]
        · rw [tk]; exact q1.snoc _ _ (.inr rfl)
      · refine ⟨⟨[some (.shr (.lst (D.str k :: kt.map .str))), some (.shr (.int b)), some (.own (.lst (D.str k :: (ls ++ [kt[pre.length]]).map .str))), some (.shr (.int (1 + (pre.length : Int))))], []⟩, ?_, ls ++ [kt[pre.length]], _, ?_, by simp [q2], rfl⟩
        · simp [fstep_k, e9, c, ln, i1]
        · rw [tk]; exact q1.snoc _ _ (.inl rfl))
  obtain ⟨s', rfl, ls, e, q1, q2, rfl⟩ := this
  refine ⟨ls, ?_, by simp⟩
  rw [List.take_of_length_le (by simp)] at q1
  exact q1
/-! ### a passage so -/
theorem strOk_of {rows : List Rec} (G : Good rows) {k : Str} (hk : KOk rows k) : PyData.strOk k = true := by
  rcases hk with rfl | hk
  · decide +kernel
  · obtain ⟨r, hr, rfl⟩ := List.mem_map.mp hk
    exact (G.ok r hr).strOk
theorem pD_nob {rows : List Rec} (G : Good rows) {v : Str × Int} (hv : V2 rows v) : (pD v).nob = true := by
  show (PyData.strOk v.1 && _) = true
  rw [strOk_of G (.inr hv.mem)]
  rfl
theorem ovD_nob {rows : List Rec} (G : Good rows) {o : Option (Str × Int)} (h : ∀ w, o = some w → V2 rows w) : (ovD o).nob = true := by
  cases o with
  | none => rfl
  | some w => exact pD_nob G (h w rfl)
theorem pDs_nob {rows : List Rec} (G : Good rows) : ∀ {l : List (Str × Int)}, (∀ p ∈ l, V2 rows p) → D.nobs (l.map pD) = true
  | [], h => rfl
  | p :: l, h => by
    show ((pD p).nob && D.nobs (l.map pD)) = true
    rw [pD_nob G (h p List.mem_cons_self), pDs_nob G fun q hq => h q (List.mem_cons_of_mem _ hq)]
    rfl
theorem pDs_lens : ∀ (l : List (Str × Int)), D.lenss (l.map pD) = true
  | [] => rfl
  | p :: l => by
    show ((pD p).lens && D.lenss (l.map pD)) = true
    rw [pDs_lens l]
    rfl
theorem pDs_dep : ∀ (l : List (Str × Int)), D.deps (l.map pD) ≤ 1
  | [] => by simp [D.deps]
  | p :: l => by
    show max (pD p).dep (D.deps (l.map pD)) ≤ 1
    have := pDs_dep l
    have e : (pD p).dep = 1 := rfl
    omega
theorem same_res (n : Nat) {rows : List Rec} (G : Good rows) (st : Nat) {o : Option (Str × Int)} (h : ∀ w, o = some w → V2 rows w) : Pr.call (n+3) F.L_same [.val (.lst [.int st, ovD o]), .val (.lst [.int st, ovD o])] = .ret (.shr (.bl true)) [] := by
  refine same_self n 2 _ ?_ ?_ ?_
  · show ((ovD o).nob && true) = true
    rw [ovD_nob G h]; rfl
  · cases o <;> rfl
  · cases o <;> exact Nat.le_of_ble_eq_true rfl
theorem same_told (n : Nat) {rows : List Rec} (G : Good rows) {a b : Str} (ha : KOk rows a) (hb : KOk rows b) (c : Nat) {l : List (Str × Int)} (h : ∀ p ∈ l, V2 rows p) (hl : l.length ≤ 20) : Pr.call (n+4) F.L_same [.val (.lst [.str a, .str b, .int c, .lst (l.map pD)]), .val (.lst [.str a, .str b, .int c, .lst (l.map pD)])] = .ret (.shr (.bl true)) [] := by
  refine same_self n 3 _ ?_ ?_ ?_
  · show (PyData.strOk a && (PyData.strOk b && (true && (D.nobs (l.map pD) && true)))) = true
    rw [strOk_of G ha, strOk_of G hb, pDs_nob G h]; rfl
  · show (decide (4 ≤ lim) && (true && (true && (true && ((decide ((l.map pD).length ≤ lim) && D.lenss (l.map pD)) && true))))) = true
    rw [pDs_lens]
    have : (l.map pD).length ≤ lim := by unfold lim; simp; omega
    simp [this]
    unfold lim; omega
  · show max 0 (max 0 (max 0 (max (D.deps (l.map pD) + 1) 0))) + 1 ≤ 3
    have := pDs_dep l
    omega
def soS (rows : List Rec) (pd : D) (K : List Str) (a b c : Option SV) : S := ⟨[some (.shr (rowsD rows)), some (.shr pd), some (.shr (.lst (K.map .str))), a, b, c, none, none], []⟩
theorem passage_so_ok (n : Nat) {rows : List Rec} (G : Good rows) (k : Str) (kt : List Str) (hk : ∀ a ∈ k :: kt, KOk rows a) (hl : kt.length ≤ 5) :
    Pr.call (n+7) F.L_passage_so [.val (rowsD rows), .val (passD rows k ((k :: kt).getLast (by simp)) kt.length (ofPs rows k kt)), .val (.lst ((k :: kt).map .str))] = .ret (.shr (.bl true)) [] := by
  have km := hk k List.mem_cons_self
  have hkt : ∀ a ∈ kt, KOk rows a := fun a h => hk a (List.mem_cons_of_mem _ h)
  have pok : PsOk rows (ofPs rows k kt) := pfold_ok kt 1 (ps0_ok km) hkt
  have lok : KOk rows ((k :: kt).getLast (by simp)) := hk _ (List.getLast_mem _)
  have i0 : ixI (D.str k :: kt.map D.str) 0 = some (.str k) := by have := ixI_nat (D.str k :: kt.map D.str) 0; simpa using this
  have iL : ixI (D.str k :: kt.map D.str) (kt.length : Int) = some (.str ((k :: kt).getLast (by simp))) := by
    rw [ixI_nat]
    show ((k :: kt).map D.str)[kt.length]? = _
    rw [List.getElem?_map, List.getLast_eq_getElem]
    simp
  generalize hL : (k :: kt).getLast (by simp) = L at *
  have mem := lmembers_ok (n+5) G km
  rw [members_memP] at mem
  have mo := memP_ok G km
  have ml := memP_len G km
  have fl : (memP rows k).all (D.tfl ∘ pD) = true := List.all_eq_true.mpr fun _ _ => rfl
  have wko : ∀ p ∈ memP rows k, Pr.call (n+6) F.L_walked [.val (rowsD rows), .val (.lst (D.str k :: kt.map .str)), .val (pD p)] = .ret (.shr (.tup [.int (walked rows 1 kt p).1, ovD (walked rows 1 kt p).2])) [] := fun p hp => walked_ok (n+3) G k kt hk hl (mo p hp).1
  have ow : ∀ p ∈ memP rows k, stageP rows (ofPs rows k kt) p.1 = (walked rows 1 kt p).1 ∧ leadP rows (ofPs rows k kt) p.1 p.2 = (walked rows 1 kt p).2 ∧ ∀ w, (walked rows 1 kt p).2 = some w → V2 rows w := fun p hp => by
    obtain ⟨a, b, _, d⟩ := of_walk2 G (mo p hp).1 (mo p hp).2 kt hkt
    exact ⟨a, b, fun w h => (d w h).2⟩
  rw [call_L_passage_so]
  simp [runF, I_L_passage_so, i0, mem, fl]
  generalize hf : forRun _ _ _ _ _ = o
  have := for_thru hf (fun pre s => ∃ (e : Option SV) (f g : Option SV), s = ⟨[some (.shr (rowsD rows)), some (.shr (passD rows k L kt.length (ofPs rows k kt))), some (.shr (.lst (D.str k :: kt.map .str))), e, none, none, f, g], []⟩)
    ⟨none, none, none, rfl⟩ (fun pre s ⟨e, f, g, h⟩ => by subst h; simp [looksB_k, i0]) (fun pre p post s hx ⟨e, f, g, h⟩ => by
      subst h
      have hp : p ∈ memP rows k := by rw [hx]; simp
      obtain ⟨o1, o2, o3⟩ := ow p hp
      have st := stage_ok (n+1) G (s := k) (e := L) (b := kt.length) pok p.2 (mo p hp).1.mem
      have ld := lead_ok n G (s := k) (e := L) (b := kt.length) pok (mo p hp).1
      rw [o1] at st
      rw [o2] at ld
      have st' : Pr.call (n+1+5) F.Passage_stage [.val (passD rows k L kt.length (ofPs rows k kt)), .val (pD p)] = .ret (.shr (.int (walked rows 1 kt p).1)) [] := st
      have ld' : Pr.call (n+6) F.Passage_lead [.val (passD rows k L kt.length (ofPs rows k kt)), .val (pD p)] = .ret (.shr (ovD (walked rows 1 kt p).2)) [] := ld
      have sm := same_res (n+3) G (walked rows 1 kt p).1 o3
      refine ⟨⟨[some (.shr (rowsD rows)), some (.shr (passD rows k L kt.length (ofPs rows k kt))), some (.shr (.lst (D.str k :: kt.map .str))), some (.shr (pD p)), none, none, some (.shr (.int (walked rows 1 kt p).1)), some (.shr (ovD (walked rows 1 kt p).2))], []⟩, ?_, _, _, _, rfl⟩
      simp [fstep_k, wko p hp, pd_stage, pd_lead, st', ld', sm])
  obtain ⟨s', rfl, e, f, g, rfl⟩ := this
  simp [i0, mem, fl]
  generalize hc : compRun _ _ _ _ _ = o
  have := comp_fil hc (fun p => if (walked rows 1 kt p).1 = 0 then some (pD p) else none) (by simp [looksB_k, i0]) (fun p hp => by
    have ix : ∀ a b : D, ixI [a, b] 0 = some a := fun _ _ => rfl
    by_cases c : (walked rows 1 kt p).1 = 0
    · simp [step_k, wko p hp, c, ix]
    · have c2 : ¬ ((walked rows 1 kt p).1 : Int) = 0 := by omega
      simp [step_k, wko p hp, c, c2, ix]) (by unfold lim; omega)
  subst this
  have e1 : ((memP rows k).filterMap fun p => if (walked rows 1 kt p).1 = 0 then some (pD p) else none) = ((memP rows k).filter fun p => decide ((walked rows 1 kt p).1 = 0)).map pD := by
    induction memP rows k with
    | nil => rfl
    | cons a l ih =>
      rw [List.filterMap_cons, List.filter_cons]
      by_cases c : (walked rows 1 kt a).1 = 0
      · simp [c]; exact ih
      · simp [c]; exact ih
  rw [e1]
  have pa := passing_ok n G (s := k) (e := L) (b := kt.length) pok km
  have e2 : ((memP rows k).filter fun p => decide (stageP rows (ofPs rows k kt) p.1 = 0)) = ((memP rows k).filter fun p => decide ((walked rows 1 kt p).1 = 0)) := by
    apply List.filter_congr
    intro p hp
    rw [(ow p hp).1]
  rw [e2] at pa
  have sub : ∀ p ∈ ((memP rows k).filter fun p => decide ((walked rows 1 kt p).1 = 0)), V2 rows p := fun p hp => (mo p ((List.mem_filter.mp hp).1)).1
  have fl2 : ((memP rows k).filter fun p => decide ((walked rows 1 kt p).1 = 0)).all (D.tfl ∘ pD) = true := List.all_eq_true.mpr fun _ _ => rfl
  have ll : ((memP rows k).filter fun p => decide ((walked rows 1 kt p).1 = 0)).length ≤ 20 := Nat.le_trans (List.length_filter_le _ _) ml
  generalize hF : ((memP rows k).filter fun p => decide ((walked rows 1 kt p).1 = 0)) = W at *
  have sm := same_told (n+2) G km lok kt.length sub ll
  have e9 : ((kt.length : Int) + 1 - 1) = kt.length := by omega
  simp [fl2, pf_start, pf_end, pf_borders, pd_passing, pa, i0, iL, e9, sm]
end Den
set_option Elab.async false
set_option linter.all false
set_option maxRecDepth 100000
set_option autoImplicit false
set_option maxHeartbeats 2000000
namespace Den
open PySem L2
theorem lastT_ok {rows : List Rec} : ∀ (ks : List Str) (a : Str), KOk rows a → (∀ k ∈ ks, KOk rows k) → KOk rows (lastT a ks)
  | [], a, h, _ => h
  | k :: ks, a, h, hk => by
    unfold lastT
    refine lastT_ok ks _ ?_ fun b hb => hk b (List.mem_cons_of_mem _ hb)
    by_cases e : k = "?"
    · rw [if_pos e]; exact h
    · rw [if_neg e]; exact hk k List.mem_cons_self
theorem less_main {rows : List Rec} (G : Good rows) {kt ls : List Str} (hl : Less kt ls) {p o : Str × Int} (hv : V2 rows p) (h : (walked rows 1 kt p).2 = some o) :
    ∃ w, (walked rows 1 ls p).2 = some w ∧ V2 rows w ∧ V2 rows o ∧ ledK rows w (lastT "?" kt) = some o ∧ (lastT "?" kt = "?" → o = p) := by
  obtain ⟨w, e1, vw, vo, l⟩ := less_walk G hl 1 1 p p o hv hv (led_self G hv) h
  obtain ⟨a1, a2⟩ := last_walk G (v0 := p) kt 1 "?" p o hv (fun _ => rfl) (fun z => absurd rfl z) h
  refine ⟨w, e1, vw, vo, ?_, a1⟩
  by_cases e : lastT "?" kt = "?"
  · have un := less_un hl (last_un kt "?" e).2
    have := (last_walk G (v0 := p) ls 1 "?" p w hv (fun _ => rfl) (fun z => absurd rfl z) e1).1 (last_all ls un)
    rw [ledK_un e, this, a1 e]
  · unfold ledK
    rw [if_neg e]
    have := a2 e
    rw [this] at l
    rw [l, ← this]
    rfl
/-- the book leads on -/
theorem bled_any (n : Nat) {rows : List Rec} (G : Good rows) {k : Str} (hk : KOk rows k) {v : Str × Int} (hv : V2 rows v) : Pr.call (n+4) F.Kindbook_led [.val (bookD rows), .val (pD v), .val (.str k)] = .ret (.shr (ovD (ledK rows v k))) [] := by
  unfold ledK
  by_cases e : k = "?"
  · rw [if_pos e, e]; exact led_any n G (bk_b rows) hv
  · rw [if_neg e]
    have := led_ok n G (bk_b rows) hv (hk.resolve_left e) e
    have lo : ovD ((led rows v.1 v.2 k).map fun j => (k, j)) = ledD k (led rows v.1 v.2 k) := by cases led rows v.1 v.2 k <;> rfl
    rw [lo]
    exact this
theorem same_ov (n : Nat) {rows : List Rec} (G : Good rows) {o : Option (Str × Int)} (h : ∀ w, o = some w → V2 rows w) : Pr.call (n+3) F.L_same [.val (ovD o), .val (ovD o)] = .ret (.shr (.bl true)) [] := by
  refine same_self n 2 _ (ovD_nob G h) ?_ ?_
  · cases o <;> rfl
  · cases o <;> exact Nat.le_of_ble_eq_true rfl
theorem same_pD (n : Nat) {rows : List Rec} (G : Good rows) {v : Str × Int} (h : V2 rows v) : Pr.call (n+3) F.L_same [.val (pD v), .val (pD v)] = .ret (.shr (.bl true)) [] :=
  same_ov n G (o := some v) fun w e => by cases e; exact h
/-! ### a turn of the law -/
abbrev tnBody : List C := match I_law.body with
  | [_, _, _, _, _, _, _, _, .for _ _ b _, _] => b
  | _ => []
abbrev vlBody : List C := match tnBody with
  | [_, _, _, _, _, .for _ _ b _] => b
  | _ => []
def vlS (ns : D) (ds : List Int) (rows : List Rec) (b : D) (K : D) (pd td jd : D) (last : Str) (a8 a9 a10 a13 a14 a15 : Option SV) : S :=
  ⟨[some (.shr ns), some (.own (.lst (ds.map .int))), some (.shr (rowsD rows)), some (.shr b), some (.shr K), some (.shr (bookD rows)), some (.shr pd), some (.shr (.str last)), a8, a9, a10, some (.shr td), some (.shr jd), a13, a14, a15], []⟩
theorem value_step (n : Nat) {rows : List Rec} (G : Good rows) (k : Str) (kt ls : List Str) (hk : ∀ a ∈ k :: kt, KOk rows a) (hl : Less kt ls) (ns : D) (ds : List Int) (b K : D) {s1 e1 s2 e2 s3 e3 : Str} {b1 b2 b3 : Nat} {J : Ps} (jok : PsOk rows J) (p : Str × Int) (hp : p ∈ memP rows k)
    (hJ : leadP rows J p.1 p.2 = (walked rows 1 ls p).2) (a8 a9 a10 a13 a14 a15 : Option SV) : ∃ c13 c14 c15, forStep (Pr.env (n+7)) (.nm 13) vlBody (vlS ns ds rows b K (passD rows s1 e1 b1 (ofPs rows k kt)) (passD rows s2 e2 b2 (ofPs rows k ls)) (passD rows s3 e3 b3 J) (lastT "?" kt) a8 a9 a10 a13 a14 a15) (pD p) =
      .nx (vlS ns ds rows b K (passD rows s1 e1 b1 (ofPs rows k kt)) (passD rows s2 e2 b2 (ofPs rows k ls)) (passD rows s3 e3 b3 J) (lastT "?" kt) a8 a9 a10 c13 c14 c15) := by
  have km := hk k List.mem_cons_self
  have hkt : ∀ a ∈ kt, KOk rows a := fun a h => hk a (List.mem_cons_of_mem _ h)
  have hls := less_ok hl hkt
  obtain ⟨mv, mk⟩ := memP_ok G km p hp
  have pok : PsOk rows (ofPs rows k kt) := pfold_ok kt 1 (ps0_ok km) hkt
  have tok : PsOk rows (ofPs rows k ls) := pfold_ok ls 1 (ps0_ok km) hls
  obtain ⟨p1, p2, p3, p4⟩ := of_walk2 G mv mk kt hkt
  obtain ⟨t1, t2, t3, t4⟩ := of_walk2 G mv mk ls hls
  have l1 : Pr.call (n+1+6) F.Passage_lead [.val (passD rows s1 e1 b1 (ofPs rows k kt)), .val (pD p)] = .ret (.shr (ovD (walked rows 1 kt p).2)) [] := by rw [← p2]; exact lead_ok (n+1) G pok mv
  have l2 : Pr.call (n+1+6) F.Passage_lead [.val (passD rows s2 e2 b2 (ofPs rows k ls)), .val (pD p)] = .ret (.shr (ovD (walked rows 1 ls p).2)) [] := by rw [← t2]; exact lead_ok (n+1) G tok mv
  have l3 : Pr.call (n+1+6) F.Passage_lead [.val (passD rows s3 e3 b3 J), .val (pD p)] = .ret (.shr (ovD (walked rows 1 ls p).2)) [] := by rw [← hJ]; exact lead_ok (n+1) G jok mv
  have sw := same_ov (n+4) G fun w h => (t4 w h).2
  cases ho : (walked rows 1 kt p).2 with
  | none =>
    rw [ho] at l1
    refine ⟨some (.shr (pD p)), some (.shr .non), some (.shr (ovD (walked rows 1 ls p).2)), ?_⟩
    have on : ovD none = D.non := rfl
    rw [on] at l1
    generalize ovD (walked rows 1 ls p).2 = W at *
    simp [vlS, fstep_k, vlBody, tnBody, I_law, pd_lead, l1, l2, l3, sw]
  | some o =>
    obtain ⟨w, e, vw, vo, hlk, hu⟩ := less_main G hl mv ho
    rw [ho] at l1
    rw [e] at l2 l3 sw
    have st : Pr.call (n+2+5) F.Passage_stage [.val (passD rows s2 e2 b2 (ofPs rows k ls)), .val (pD p)] = .ret (.shr (.int 0)) [] := by
      have := stage_ok (n+2) G (s := s2) (e := e2) (b := b2) tok p.2 mv.mem
      rw [t1, (t4 w e).1] at this
      exact this
    have lok := lastT_ok kt "?" (.inl rfl) hkt
    have q1 := led_any2 (n+5) G lok vw
    have q2 := bled_any (n+3) G lok vw
    rw [hlk] at q1 q2
    have so := same_pD (n+4) G vo
    have ov : ∀ v : Str × Int, ovD (some v) = pD v := fun _ => rfl
    have nn : ∀ v : Str × Int, ¬ pD v = D.non := fun v h => by cases h
    refine ⟨some (.shr (pD p)), some (.shr (pD o)), some (.shr (pD w)), ?_⟩
    rw [ov] at l1 l2 l3 sw q1 q2
    generalize lastT "?" kt = T at *
    by_cases c : T = "?"
    · have op := hu c
      subst op
      subst c
      simp [vlS, fstep_k, vlBody, tnBody, I_law, pd_lead, pd_stage, bd_led, l1, l2, l3, sw, q1, q2, so, nn, st]
    · simp [vlS, fstep_k, vlBody, tnBody, I_law, pd_lead, pd_stage, bd_led, l1, l2, l3, sw, q1, q2, so, nn, st, c]
end Den
set_option Elab.async false
set_option linter.all false
set_option maxRecDepth 100000
set_option autoImplicit false
set_option maxHeartbeats 2000000
namespace Den
open PySem L2
theorem join_ok {rows : List Rec} (b : Nat) {P Q : Ps} (hp : PsOk rows P) (hq : PsOk rows Q) : PsOk rows (joinP rows b P Q) := by
  unfold joinP
  split
  · exact hp
  · split
    · exact ⟨hq.1, hq.2⟩
    · rename_i r hr
      have rr : ∀ q, (match Q.reached with | none => some r | some q => some q) = some q → q ∈ names rows := by
        intro q h
        cases hqr : Q.reached with
        | none => rw [hqr] at h; cases h; exact hp.1 _ hr
        | some s => rw [hqr] at h; cases h; exact hq.1 _ hqr
      split
      · split
        · exact ⟨rr, hp.2⟩
        · exact ⟨fun q h => by cases h; exact hp.1 _ hr, hp.2⟩
      · exact ⟨rr, hp.2⟩
theorem split_at : ∀ (at_ : Nat) (k : Str) (ls : List Str), at_ ≤ ls.length → ∃ k2, (k :: ls).drop at_ = k2 :: ls.drop at_ ∧ (k :: ls.take at_).getLast (by simp) = k2
  | 0, k, ls, _ => ⟨k, by simp, by simp⟩
  | n + 1, k, [], h => by simp at h
  | n + 1, k, l :: ls, h => by
    obtain ⟨k2, e1, e2⟩ := split_at n l ls (by simpa using h)
    refine ⟨k2, by simpa using e1, ?_⟩
    rw [← e2]
    simp
theorem cut_take {α : Type} (xs : List α) (m : Nat) : cutG xs none (some (m : Int)) = xs.take m := by
  unfold cutG
  rw [HT.sIx_none, HT.sIx_nat]
  simp
theorem cut_drop {α : Type} (xs : List α) (m : Nat) : cutG xs (some (m : Int)) none = xs.drop m := by
  unfold cutG
  rw [HT.sIx_none, HT.sIx_nat]
  by_cases h : m ≤ xs.length
  · rw [Nat.min_eq_left h]; apply List.take_of_length_le; simp
  · rw [Nat.min_eq_right (by omega)]; simp; omega
theorem pf_tfl1 {rows : List Rec} {s e : Str} {b : Nat} {P : Ps} : (passD rows s e b P).tfl1 = false := rfl
def tnS (ns : D) (ds : List Int) (rows : List Rec) (b : Nat) (k : Str) (kt : List Str) (a8 a9 a10 a11 a12 a13 a14 a15 : Option SV) : S :=
  ⟨[some (.shr ns), some (.own (.lst (ds.map .int))), some (.shr (rowsD rows)), some (.shr (.int b)), some (.shr (.lst ((k :: kt).map .str))), some (.shr (bookD rows)), some (.shr (passD rows k ((k :: kt).getLast (by simp)) kt.length (ofPs rows k kt))), some (.shr (.str (lastT "?" kt))), a8, a9, a10, a11, a12, a13, a14, a15], []⟩
theorem turn_step (n : Nat) {rows : List Rec} (G : Good rows) (k : Str) (kt : List Str) (hk : ∀ a ∈ k :: kt, KOk rows a) (hadj : Adj rows (k :: kt)) (hl : kt.length ≤ 5) (ns : D) (ds : List Int) (j : Nat) :
    ∃ ds' a8 a9 a10 a11 a12 a13 a14 a15, forStep (Pr.env (n+7)) (.nm 8) tnBody (tnS ns ds rows kt.length k kt none none none none none none none none) (.int j) = .nx (tnS ns ds' rows kt.length k kt a8 a9 a10 a11 a12 a13 a14 a15) := by
  have km := hk k List.mem_cons_self
  have hkt : ∀ a ∈ kt, KOk rows a := fun a h => hk a (List.mem_cons_of_mem _ h)
  obtain ⟨v, ds1, v1, v2, d1⟩ := draw_ex (n+6) ds 32 (by omega)
  obtain ⟨a, ds2, a1, a2, d2⟩ := draw_ex (n+6) ds1 ((kt.length : Int) + 1) (by omega)
  obtain ⟨m, rfl⟩ := Int.eq_ofNat_of_zero_le a1
  obtain ⟨ls, less, lt⟩ := less_told_ok (n+6) k kt hl ((v + 7 * (j : Int)) % 32)
  have ll := less_len less
  have hls := less_ok less hkt
  have hka : ∀ a ∈ k :: ls, KOk rows a := fun a h => by
    rcases List.mem_cons.mp h with rfl | h
    · exact km
    · exact hls a h
  have adj := less_adj less k k (.inl rfl) hadj
  obtain ⟨k2, e1, e2⟩ := split_at m k ls (by omega)
  have mg : mulG 7 (j : Int) = true := by unfold mulG; simp
  have c1 : cutG ((k :: ls).map D.str) none (some ((m : Int) + 1)) = (k :: ls.take m).map .str := by
    rw [show (m : Int) + 1 = ((m + 1 : Nat) : Int) by omega, cut_take, ← List.map_take]; rfl
  have c2 : cutG ((k :: ls).map D.str) (some (m : Int)) none = (k2 :: ls.drop m).map .str := by
    rw [cut_drop, ← List.map_drop, e1]
  have o1 := of_ok (n+1) G k ls hka adj (by omega) (.tup ((k :: ls).map .str)) (.inr rfl)
  have ka : ∀ a ∈ k :: ls.take m, KOk rows a := fun a h => hka a (by
    rcases List.mem_cons.mp h with rfl | h
    · exact List.mem_cons_self
    · exact List.mem_cons_of_mem _ (List.mem_of_mem_take h))
  have kb : ∀ a ∈ k2 :: ls.drop m, KOk rows a := fun a h => hka a (by rw [← e1] at h; exact List.mem_of_mem_drop h)
  have o2 := of_ok (n+1) G k (ls.take m) ka (adj_take (m + 1) (k :: ls) adj) (by simp; omega) (.lst ((k :: ls.take m).map .str)) (.inl rfl)
  have o3 := of_ok (n+1) G k2 (ls.drop m) kb (by rw [← e1]; exact adj_drop m _ adj) (by simp; omega) (.lst ((k2 :: ls.drop m).map .str)) (.inl rfl)
  rw [e2] at o2
  have so := passage_so_ok n G k ls hka (by omega)
  have pok1 : PsOk rows (ofPs rows k (ls.take m)) := pfold_ok _ 1 (ps0_ok km) fun a h => ka a (List.mem_cons_of_mem _ h)
  have pok2 : PsOk rows (ofPs rows k2 (ls.drop m)) := pfold_ok _ 1 (ps0_ok (kb k2 List.mem_cons_self)) fun a h => kb a (List.mem_cons_of_mem _ h)
  have th := then_ok (n+1) G (s := k) (e := k2) (e2 := (k2 :: ls.drop m).getLast (by simp)) (b := (ls.take m).length) (b2 := (ls.drop m).length) pok1 pok2
  have jok := join_ok (ls.take m).length pok1 pok2
  have hJ : ∀ p ∈ memP rows k, leadP rows (joinP rows (ls.take m).length (ofPs rows k (ls.take m)) (ofPs rows k2 (ls.drop m))) p.1 p.2 = (walked rows 1 ls p).2 := fun p hp => by
    obtain ⟨mv, mk⟩ := memP_ok G km p hp
    have := parts_lead G mv mk (ls.take m) k2 (ls.drop m) e2 (fun a h => ka a (List.mem_cons_of_mem _ h)) (fun a h => kb a (List.mem_cons_of_mem _ h)) (ls.take m).length
    rw [List.take_append_drop] at this
    exact this
  generalize joinP rows (ls.take m).length (ofPs rows k (ls.take m)) (ofPs rows k2 (ls.drop m)) = J at *
  generalize (k2 :: ls.drop m).getLast (by simp) = E3 at *
  have mem := lmembers_ok (n+6) G km
  rw [members_memP] at mem
  have fl : (memP rows k).all (D.tfl ∘ pD) = true := List.all_eq_true.mpr fun _ _ => rfl
  have i0 : ixI ((k :: kt).map D.str) 0 = some (.str k) := by have := ixI_nat ((k :: kt).map D.str) 0; simpa using this
  have fs : ∀ l : List Str, l.all (D.tfl ∘ D.str) = true := fun l => List.all_eq_true.mpr fun _ _ => rfl
  have bp : (0 : Int) < (kt.length : Int) + 1 := by omega
  simp only [List.map_cons] at *
  generalize ls.take m = A at *
  generalize ls.drop m = B at *
  unfold tnS
  simp [fstep_k, tnBody, I_law, d1, d2, lt, mg, fs, bp, o1, o2, o3, so, c1, c2, pd_then, th, i0, mem, fl, pf_tfl1]
  generalize hf : forRun _ _ _ _ _ = o
  have go : ∀ (ps : List PV) (ds9 : List D) (o : O), (∀ a13 a14 a15, (vlS ns ds2 rows (.int kt.length) (.lst (D.str k :: kt.map .str)) (passD rows k ((k :: kt).getLast (by simp)) kt.length (ofPs rows k kt)) (passD rows k ((k :: ls).getLast (by simp)) ls.length (ofPs rows k ls)) (passD rows k E3 (A.length + B.length) J) (lastT "?" kt) (some (.shr (.int j))) (some (.shr (.lst (D.str k :: ls.map .str)))) (some (.shr (.int m))) a13 a14 a15).looks ps = some ds9) →
      forRun (forStep (Pr.env (n+7)) (.nm 13) vlBody) (looksB ps ds9) [] ((memP rows k).map pD) (vlS ns ds2 rows (.int kt.length) (.lst (D.str k :: kt.map .str)) (passD rows k ((k :: kt).getLast (by simp)) kt.length (ofPs rows k kt)) (passD rows k ((k :: ls).getLast (by simp)) ls.length (ofPs rows k ls)) (passD rows k E3 (A.length + B.length) J) (lastT "?" kt) (some (.shr (.int j))) (some (.shr (.lst (D.str k :: ls.map .str)))) (some (.shr (.int m))) none none none) = o →
      ∃ a13 a14 a15, o = .nx (vlS ns ds2 rows (.int kt.length) (.lst (D.str k :: kt.map .str)) (passD rows k ((k :: kt).getLast (by simp)) kt.length (ofPs rows k kt)) (passD rows k ((k :: ls).getLast (by simp)) ls.length (ofPs rows k ls)) (passD rows k E3 (A.length + B.length) J) (lastT "?" kt) (some (.shr (.int j))) (some (.shr (.lst (D.str k :: ls.map .str)))) (some (.shr (.int m))) a13 a14 a15) := by
    intro ps ds9 o hok ho
    obtain ⟨s', rfl, a13, a14, a15, rfl⟩ := for_thru ho (fun pre s => ∃ a13 a14 a15 : Option SV, s = vlS ns ds2 rows (.int kt.length) (.lst (D.str k :: kt.map .str)) (passD rows k ((k :: kt).getLast (by simp)) kt.length (ofPs rows k kt)) (passD rows k ((k :: ls).getLast (by simp)) ls.length (ofPs rows k ls)) (passD rows k E3 (A.length + B.length) J) (lastT "?" kt) (some (.shr (.int j))) (some (.shr (.lst (D.str k :: ls.map .str)))) (some (.shr (.int m))) a13 a14 a15)
      ⟨none, none, none, rfl⟩ (fun pre s ⟨a, b, c, h⟩ => by subst h; simp [looksB_k, hok]) (fun pre p post s hx ⟨a13, a14, a15, h⟩ => by
        subst h
        have hp : p ∈ memP rows k := by rw [hx]; simp
        obtain ⟨b13, b14, b15, st⟩ := value_step n G k kt ls hk less ns ds2 (.int kt.length) (.lst (D.str k :: kt.map .str)) (s1 := k) (e1 := (k :: kt).getLast (by simp)) (b1 := kt.length) (s2 := k) (e2 := (k :: ls).getLast (by simp)) (b2 := ls.length) (s3 := k) (e3 := E3) (b3 := A.length + B.length) jok p hp (hJ p hp) (some (.shr (.int j))) (some (.shr (.lst (D.str k :: ls.map .str)))) (some (.shr (.int m))) a13 a14 a15
        exact ⟨_, st, b13, b14, b15, rfl⟩)
    exact ⟨a13, a14, a15, rfl⟩
  obtain ⟨a13, a14, a15, e⟩ := go _ _ o (fun a b c => by rfl) hf
  exact ⟨ds2, some (.shr (.int j)), some (.shr (.lst (D.str k :: ls.map .str))), some (.shr (.int m)), some (.shr (passD rows k ((k :: ls).getLast (by simp)) ls.length (ofPs rows k ls))), some (.shr (passD rows k E3 (A.length + B.length) J)), a13, a14, a15, e⟩
end Den
set_option Elab.async false
set_option linter.all false
set_option maxRecDepth 100000
set_option autoImplicit false
set_option maxHeartbeats 2000000
namespace Den
open PySem L2
theorem law_true : ∀ ns : List Int, ns.length ≤ 63 → (∀ z ∈ ns, Builtin.Int.intBits z ≤ 1048576) → Pr.call 14 F.law [.val (.frl (ns.map .int))] = .ret (.shr (.bl true)) [] := by
  intro ns hn _
  obtain ⟨ds, d0⟩ := draws_ok 12 ns hn
  obtain ⟨rows, ds1, G, r4, d1⟩ := book_ok 9 ds 4 (by omega) (by omega)
  obtain ⟨v, ds2, v1, v2, d2⟩ := draw_ex 12 ds1 5 (by omega)
  obtain ⟨c, ds3, c1, c2, d3⟩ := draw_ex 12 ds2 2 (by omega)
  obtain ⟨b, hb⟩ : ∃ b : Nat, 1 + (2 + v) % 5 = (b : Int) := ⟨(1 + (2 + v) % 5).toNat, by have := Int.emod_nonneg (2 + v) (by omega : (5 : Int) ≠ 0); omega⟩
  have b5 : b ≤ 5 := by have := Int.emod_lt_of_pos (2 + v) (by omega : (0 : Int) < 5); omega
  obtain ⟨k, kt, ds4, rfl, hk, hadj, d4⟩ := seq_ok 10 G ds3 b b5 c ⟨c1, c2⟩
  have bn := book_new 9 rows G
  have po := of_ok 7 G k kt hk hadj (by omega) (.lst ((k :: kt).map .str)) (.inl rfl)
  have so := passage_so_ok 6 G k kt hk b5
  have la := last_ok 12 k kt
  have fs : ∀ l : List Str, l.all (D.tfl ∘ D.str) = true := fun l => List.all_eq_true.mpr fun _ _ => rfl
  have fr : rows.all (D.tfl ∘ Rec.d) = true := List.all_eq_true.mpr fun r _ => by
    have : D.tfls (r.lds.map D.int) = true := by rw [D.tfls_all, List.all_map]; exact List.all_eq_true.mpr fun _ _ => rfl
    show (true && (true && ((parD r.par).tfl && (D.tfls (r.lds.map D.int) && true)))) = true
    rw [this]
    cases r.par <;> rfl
  rw [call_law]
  have d1' : Pr.call 13 F.L_book [.bor (.lst (ds.map .int)), .val (.int 4)] = .ret (.own (.lst (rows.map Rec.d))) [.lst (ds1.map .int)] := d1
  simp only [List.map_cons, rowsD] at *
  simp [runF, I_law, d0, d1', d2, d3, d4, hb, bn, po, so, la, fs, fr, pf_tfl1]
  generalize hf : forRun _ _ _ _ _ = o
  have go : ∀ (ps : List PV) (ds9 : List D) (o : O), (∀ ds a8 a9 a10 a11 a12 a13 a14 a15, (tnS (.frl (ns.map .int)) ds rows kt.length k kt a8 a9 a10 a11 a12 a13 a14 a15).looks ps = some ds9) →
      forRun (forStep (Pr.env 13) (.nm 8) tnBody) (looksB ps ds9) [8, 9, 10, 11, 12, 13, 14, 15] ((List.range 8).map fun k : Nat => D.int k) (tnS (.frl (ns.map .int)) ds4 rows kt.length k kt none none none none none none none none) = o →
      ∃ ds, o = .nx (tnS (.frl (ns.map .int)) ds rows kt.length k kt none none none none none none none none) := by
    intro ps ds9 o hok ho
    obtain ⟨s', rfl, ds, a8, a9, a10, a11, a12, a13, a14, a15, rfl⟩ := for_thru ho (fun pre s => ∃ (ds : List Int) (a8 a9 a10 a11 a12 a13 a14 a15 : Option SV), s = tnS (.frl (ns.map .int)) ds rows kt.length k kt a8 a9 a10 a11 a12 a13 a14 a15)
      ⟨ds4, none, none, none, none, none, none, none, none, rfl⟩ (fun pre s ⟨ds, a, b, c, d, e, f, g, i, h⟩ => by subst h; simp [looksB_k, hok]) (fun pre j post s hx ⟨ds, a8, a9, a10, a11, a12, a13, a14, a15, h⟩ => by
        subst h
        obtain ⟨ds', b8, b9, b10, b11, b12, b13, b14, b15, st⟩ := turn_step 6 G k kt hk hadj b5 (.frl (ns.map .int)) ds j
        exact ⟨_, st, ds', b8, b9, b10, b11, b12, b13, b14, b15, rfl⟩)
    exact ⟨ds, rfl⟩
  obtain ⟨ds', e⟩ := go _ _ o (fun _ _ _ _ _ _ _ _ _ => by rfl) hf
  subst e
  simp [tnS]
end Den
set_option Elab.async false
set_option linter.all false
set_option maxRecDepth 100000
set_option autoImplicit false
set_option maxHeartbeats 4000000
namespace Den
open PySem PySem.Spec PyProof.Rows L2
theorem law_all {K : PySem.W.Frag} {mg : Str → Option Value} {h : Heap} {l : PySem.W.OpenLaw} {w : World} {fa C0 C1 C2 C3 C4 C5 C6 C7 C8 C9 : Addr} {t0 t1 tc8_0 tc8_1 : Tok}
  (X : K.In h) (G : h.Ns mainGlobals mg) (hfa : mg "law" = some (.ref fa))
  (e0 : ExcAt K "FormroadsError" C0)
  (e1 : ExcAt K "InvalidName" C1)
  (e2 : ExcAt K "DuplicateName" C2)
  (e3 : ExcAt K "UnknownName" C3)
  (e4 : ExcAt K "TooMany" C4)
  (e5 : ExcAt K "InvalidKind" C5)
  (e6 : ExcAt K "NotJoined" C6)
  (e7 : ExcAt K "Clash" C7)
  (z0 : PySem.W.nsIn K mainGlobals "all" = some none)
  (z1 : PySem.W.nsIn K mainGlobals "bool" = some none)
  (z2 : PySem.W.nsIn K mainGlobals "enumerate" = some none)
  (z3 : PySem.W.nsIn K mainGlobals "int" = some none)
  (z4 : PySem.W.nsIn K mainGlobals "isinstance" = some none)
  (z5 : PySem.W.nsIn K mainGlobals "len" = some none)
  (z6 : PySem.W.nsIn K mainGlobals "list" = some none)
  (z7 : PySem.W.nsIn K mainGlobals "range" = some none)
  (z8 : PySem.W.nsIn K mainGlobals "str" = some none)
  (z9 : PySem.W.nsIn K mainGlobals "tuple" = some none)
  (z10 : PySem.W.nsIn K mainGlobals "zip" = some none)
  (k0 : PySem.W.nsIn K mainGlobals "UNKNOWN" = some (some (.str "?" t0)))
  (k1 : PySem.W.nsIn K mainGlobals "_LONGEST_NAME" = some (some (.int 8 t1)))
  (cc8 : ClsAt K "Kindbook" C8)
  (n8_0 : PySem.W.findIn K (.ref C8) "_told" = some none)
  (n8_1 : PySem.W.findIn K (.ref C8) "names" = some none)
  (u8_0 : PySem.W.findIn K (.ref C8) "MOST" = some (some (.int 5 tc8_0)))
  (g8_0 : PySem.W.specialIn K (.int 5 tc8_0) "__get__" = some none)
  (u8_1 : PySem.W.findIn K (.ref C8) "MOST_SIZE" = some (some (.int 4 tc8_1)))
  (g8_1 : PySem.W.specialIn K (.int 4 tc8_1) "__get__" = some none)
  (cc9 : ClsAt K "Passage" C9)
  (n9_0 : PySem.W.findIn K (.ref C9) "book" = some none)
  (n9_1 : PySem.W.findIn K (.ref C9) "borders" = some none)
  (n9_2 : PySem.W.findIn K (.ref C9) "end_kind" = some none)
  (n9_3 : PySem.W.findIn K (.ref C9) "fail_stage" = some none)
  (n9_4 : PySem.W.findIn K (.ref C9) "gate" = some none)
  (n9_5 : PySem.W.findIn K (.ref C9) "gate_stage" = some none)
  (n9_6 : PySem.W.findIn K (.ref C9) "reached" = some none)
  (n9_7 : PySem.W.findIn K (.ref C9) "start_kind" = some none)
  (d0 : DefAt K "is_name" (topS 12))
  (d1 : DefAt K "check_name" (topS 13))
  (d2 : DefAt K "check_kinds" (topS 18))
  (d3 : DefAt K "check_border" (topS 19))
  (d4 : MethAt K C8 "__init__" "Kindbook.__init__" (inClass (topS 16) 2))
  (d5 : MethAt K C8 "_check_record" "Kindbook._check_record" (inClass (topS 16) 3))
  (d6 : MethAt K C8 "checked" "Kindbook.checked" (inClass (topS 16) 6))
  (d7 : MethAt K C8 "size_of" "Kindbook.size_of" (inClass (topS 16) 7))
  (d8 : MethAt K C8 "parent_of" "Kindbook.parent_of" (inClass (topS 16) 8))
  (d9 : MethAt K C8 "leads_of" "Kindbook.leads_of" (inClass (topS 16) 9))
  (d10 : MethAt K C8 "chain_of" "Kindbook.chain_of" (inClass (topS 16) 10))
  (d11 : MethAt K C8 "members" "Kindbook.members" (inClass (topS 16) 11))
  (d12 : MethAt K C8 "led" "Kindbook.led" (inClass (topS 16) 12))
  (d13 : MethAt K C8 "below" "Kindbook.below" (inClass (topS 16) 13))
  (d14 : MethAt K C9 "__init__" "Passage.__init__" (inClass (topS 21) 0))
  (d15 : StatAt K C9 "of" "Passage.of" (inClass (topS 21) 1))
  (d16 : MethAt K C9 "then" "Passage.then" (inClass (topS 21) 2))
  (d17 : MethAt K C9 "_joined_parts" "Passage._joined_parts" (inClass (topS 21) 3))
  (d18 : MethAt K C9 "_stage_behind" "Passage._stage_behind" (inClass (topS 21) 4))
  (d19 : MethAt K C9 "stage" "Passage.stage" (inClass (topS 21) 6))
  (d20 : MethAt K C9 "lead" "Passage.lead" (inClass (topS 21) 7))
  (d21 : MethAt K C9 "passing" "Passage.passing" (inClass (topS 21) 8))
  (d22 : DefAt K "_law_draws" (topS 23))
  (d23 : DefAt K "_law_draw" (topS 24))
  (d24 : DefAt K "_law_pick" (topS 25))
  (d25 : DefAt K "_law_same" (topS 26))
  (d26 : DefAt K "_law_names" (topS 27))
  (d27 : DefAt K "_law_book" (topS 28))
  (d28 : DefAt K "_law_row" (topS 29))
  (d29 : DefAt K "_law_chain" (topS 30))
  (d30 : DefAt K "_law_members" (topS 31))
  (d31 : DefAt K "_law_led" (topS 32))
  (d32 : DefAt K "_law_sequence" (topS 33))
  (d33 : DefAt K "_law_walked" (topS 34))
  (d34 : DefAt K "_law_last_told" (topS 35))
  (d35 : DefAt K "_law_less_told" (topS 36))
  (d36 : DefAt K "_law_passage_so" (topS 37))
  (d37 : DefAt K "law" (topS 38)) :
    ∃ fd : FuncData, (∀ (s : Shared) (v : Value), BindsTo s fd ⟨[v], []⟩ [("_law_script", v)]) ∧ ∀ base : Heap, K.In base → base.Ns mainGlobals mg → FnOk l.prog w K mg base (L2.CX l.prog w) (2 * 14) fa fd ["_law_script"] (spLaw K) := by
  have ex : ExcTab K mg Tb Pr.sub (fun c => [C0, C1, C2, C3, C4, C5, C6, C7, C8, C9][c]?) := by
    refine excTab X G (show 8 ≤ 10 by decide) ?_ ?_
    · exact .cons (fun C hC => by cases hC; exact e0) (.cons (fun C hC => by cases hC; exact e1) (.cons (fun C hC => by cases hC; exact e2) (.cons (fun C hC => by cases hC; exact e3) (.cons (fun C hC => by cases hC; exact e4) (.cons (fun C hC => by cases hC; exact e5) (.cons (fun C hC => by cases hC; exact e6) (.cons (fun C hC => by cases hC; exact e7) (.nil))))))))
    · intro c c' b e
      replace e : subT c c' = some b := e
      unfold subT at e
      split at e
      · cases e
  have hf : AllP (fun _ I => ∃ st, FnT K mg (fun c => [C0, C1, C2, C3, C4, C5, C6, C7, C8, C9][c]?) Tb I st) 0 Tb.fs := 
    .cons ⟨_, (fnAt_no rfl (d0.fn X G (fun _ _ _ _ _ _ us hl => match us, hl with | [_], _ => rfl))), sc_is_name, rfl, fun _ => ck_is_name, fun _ h => by cases h⟩ (
    .cons ⟨_, (fnAt_no rfl (d1.fn X G (fun _ _ _ _ _ _ us hl => match us, hl with | [_], _ => rfl))), sc_check_name, rfl, fun _ => ck_check_name, fun _ h => by cases h⟩ (
    .cons ⟨_, (fnAt_no rfl (d2.fn X G (fun _ _ _ _ _ _ us hl => match us, hl with | [_, _], _ => rfl))), sc_check_kinds, rfl, fun _ => ck_check_kinds, fun _ h => by cases h⟩ (
    .cons ⟨_, (fnAt_no rfl (d3.fn X G (fun _ _ _ _ _ _ us hl => match us, hl with | [_, _, _], _ => rfl))), sc_check_border, rfl, fun _ => ck_check_border, fun _ h => by cases h⟩ (
    .cons ⟨_, (d4.fn (mg := mg) (CA := (fun c => [C0, C1, C2, C3, C4, C5, C6, C7, C8, C9][c]?)) rfl rfl (fun _ _ _ _ _ _ us hl => match us, hl with | [_, _], _ => rfl)), sc_Kindbook___init__, rfl, fun h => (by cases h), fun _ h => (by cases h; exact KBP.book_prim rfl (d4.fn (mg := mg) (CA := (fun c => [C0, C1, C2, C3, C4, C5, C6, C7, C8, C9][c]?)) rfl rfl (fun _ _ _ _ _ _ us hl => match us, hl with | [_, _], _ => rfl)))⟩ (
    .cons ⟨_, (d5.fn (mg := mg) (CA := (fun c => [C0, C1, C2, C3, C4, C5, C6, C7, C8, C9][c]?)) rfl rfl (fun _ _ _ _ _ _ us hl => match us, hl with | [_, _, _, _, _], _ => rfl)), sc_Kindbook__check_record, rfl, fun _ => ck_Kindbook__check_record, fun _ h => by cases h⟩ (
    .cons ⟨_, (d6.fn (mg := mg) (CA := (fun c => [C0, C1, C2, C3, C4, C5, C6, C7, C8, C9][c]?)) rfl rfl (fun _ _ _ _ _ _ us hl => match us, hl with | [_, _], _ => rfl)), sc_Kindbook_checked, rfl, fun _ => ck_Kindbook_checked, fun _ h => by cases h⟩ (
    .cons ⟨_, (d7.fn (mg := mg) (CA := (fun c => [C0, C1, C2, C3, C4, C5, C6, C7, C8, C9][c]?)) rfl rfl (fun _ _ _ _ _ _ us hl => match us, hl with | [_, _], _ => rfl)), sc_Kindbook_size_of, rfl, fun _ => ck_Kindbook_size_of, fun _ h => by cases h⟩ (
    .cons ⟨_, (d8.fn (mg := mg) (CA := (fun c => [C0, C1, C2, C3, C4, C5, C6, C7, C8, C9][c]?)) rfl rfl (fun _ _ _ _ _ _ us hl => match us, hl with | [_, _], _ => rfl)), sc_Kindbook_parent_of, rfl, fun _ => ck_Kindbook_parent_of, fun _ h => by cases h⟩ (
    .cons ⟨_, (d9.fn (mg := mg) (CA := (fun c => [C0, C1, C2, C3, C4, C5, C6, C7, C8, C9][c]?)) rfl rfl (fun _ _ _ _ _ _ us hl => match us, hl with | [_, _], _ => rfl)), sc_Kindbook_leads_of, rfl, fun _ => ck_Kindbook_leads_of, fun _ h => by cases h⟩ (
    .cons ⟨_, (d10.fn (mg := mg) (CA := (fun c => [C0, C1, C2, C3, C4, C5, C6, C7, C8, C9][c]?)) rfl rfl (fun _ _ _ _ _ _ us hl => match us, hl with | [_, _], _ => rfl)), sc_Kindbook_chain_of, rfl, fun _ => ck_Kindbook_chain_of, fun _ h => by cases h⟩ (
    .cons ⟨_, (d11.fn (mg := mg) (CA := (fun c => [C0, C1, C2, C3, C4, C5, C6, C7, C8, C9][c]?)) rfl rfl (fun _ _ _ _ _ _ us hl => match us, hl with | [_, _], _ => rfl)), sc_Kindbook_members, rfl, fun _ => ck_Kindbook_members, fun _ h => by cases h⟩ (
    .cons ⟨_, (d12.fn (mg := mg) (CA := (fun c => [C0, C1, C2, C3, C4, C5, C6, C7, C8, C9][c]?)) rfl rfl (fun _ _ _ _ _ _ us hl => match us, hl with | [_, _, _], _ => rfl)), sc_Kindbook_led, rfl, fun _ => ck_Kindbook_led, fun _ h => by cases h⟩ (
    .cons ⟨_, (d13.fn (mg := mg) (CA := (fun c => [C0, C1, C2, C3, C4, C5, C6, C7, C8, C9][c]?)) rfl rfl (fun _ _ _ _ _ _ us hl => match us, hl with | [_, _, _], _ => rfl)), sc_Kindbook_below, rfl, fun _ => ck_Kindbook_below, fun _ h => by cases h⟩ (
    .cons ⟨_, (d14.fn (mg := mg) (CA := (fun c => [C0, C1, C2, C3, C4, C5, C6, C7, C8, C9][c]?)) rfl rfl (fun _ _ _ _ _ _ us hl => match us, hl with | [_, _, _, _, _, _, _, _, _], _ => rfl)), sc_Passage___init__, rfl, fun _ => ck_Passage___init__, fun _ h => by cases h⟩ (
    .cons ⟨_, (d15.fn (mg := mg) (CA := (fun c => [C0, C1, C2, C3, C4, C5, C6, C7, C8, C9][c]?)) rfl rfl (fun _ _ _ _ _ _ us hl => match us, hl with | [_, _], _ => rfl)), sc_Passage_of, rfl, fun _ => ck_Passage_of, fun _ h => by cases h⟩ (
    .cons ⟨_, (d16.fn (mg := mg) (CA := (fun c => [C0, C1, C2, C3, C4, C5, C6, C7, C8, C9][c]?)) rfl rfl (fun _ _ _ _ _ _ us hl => match us, hl with | [_, _], _ => rfl)), sc_Passage_then, rfl, fun _ => ck_Passage_then, fun _ h => by cases h⟩ (
    .cons ⟨_, (d17.fn (mg := mg) (CA := (fun c => [C0, C1, C2, C3, C4, C5, C6, C7, C8, C9][c]?)) rfl rfl (fun _ _ _ _ _ _ us hl => match us, hl with | [_, _], _ => rfl)), sc_Passage__joined_parts, rfl, fun _ => ck_Passage__joined_parts, fun _ h => by cases h⟩ (
    .cons ⟨_, (d18.fn (mg := mg) (CA := (fun c => [C0, C1, C2, C3, C4, C5, C6, C7, C8, C9][c]?)) rfl rfl (fun _ _ _ _ _ _ us hl => match us, hl with | [_, _], _ => rfl)), sc_Passage__stage_behind, rfl, fun _ => ck_Passage__stage_behind, fun _ h => by cases h⟩ (
    .cons ⟨_, (d19.fn (mg := mg) (CA := (fun c => [C0, C1, C2, C3, C4, C5, C6, C7, C8, C9][c]?)) rfl rfl (fun _ _ _ _ _ _ us hl => match us, hl with | [_, _], _ => rfl)), sc_Passage_stage, rfl, fun _ => ck_Passage_stage, fun _ h => by cases h⟩ (
    .cons ⟨_, (d20.fn (mg := mg) (CA := (fun c => [C0, C1, C2, C3, C4, C5, C6, C7, C8, C9][c]?)) rfl rfl (fun _ _ _ _ _ _ us hl => match us, hl with | [_, _], _ => rfl)), sc_Passage_lead, rfl, fun _ => ck_Passage_lead, fun _ h => by cases h⟩ (
    .cons ⟨_, (d21.fn (mg := mg) (CA := (fun c => [C0, C1, C2, C3, C4, C5, C6, C7, C8, C9][c]?)) rfl rfl (fun _ _ _ _ _ _ us hl => match us, hl with | [_], _ => rfl)), sc_Passage_passing, rfl, fun _ => ck_Passage_passing, fun _ h => by cases h⟩ (
    .cons ⟨_, (fnAt_no rfl (d22.fn X G (fun _ _ _ _ _ _ us hl => match us, hl with | [_], _ => rfl))), sc_L_draws, rfl, fun _ => ck_L_draws, fun _ h => by cases h⟩ (
    .cons ⟨_, (fnAt_no rfl (d23.fn X G (fun _ _ _ _ _ _ us hl => match us, hl with | [_, _], _ => rfl))), sc_L_draw, rfl, fun _ => ck_L_draw, fun _ h => by cases h⟩ (
    .cons ⟨_, (fnAt_no rfl (d24.fn X G (fun _ _ _ _ _ _ us hl => match us, hl with | [_, _], _ => rfl))), sc_L_pick, rfl, fun _ => ck_L_pick, fun _ h => by cases h⟩ (
    .cons ⟨_, (fnAt_no rfl (d25.fn X G (fun _ _ _ _ _ _ us hl => match us, hl with | [_, _], _ => rfl))), sc_L_same, rfl, fun _ => ck_L_same, fun _ h => by cases h⟩ (
    .cons ⟨_, (fnAt_no rfl (d26.fn X G (fun _ _ _ _ _ _ us hl => match us, hl with | [_, _], _ => rfl))), sc_L_names, rfl, fun _ => ck_L_names, fun _ h => by cases h⟩ (
    .cons ⟨_, (fnAt_no rfl (d27.fn X G (fun _ _ _ _ _ _ us hl => match us, hl with | [_, _], _ => rfl))), sc_L_book, rfl, fun _ => ck_L_book, fun _ h => by cases h⟩ (
    .cons ⟨_, (fnAt_no rfl (d28.fn X G (fun _ _ _ _ _ _ us hl => match us, hl with | [_, _], _ => rfl))), sc_L_row, rfl, fun _ => ck_L_row, fun _ h => by cases h⟩ (
    .cons ⟨_, (fnAt_no rfl (d29.fn X G (fun _ _ _ _ _ _ us hl => match us, hl with | [_, _], _ => rfl))), sc_L_chain, rfl, fun _ => ck_L_chain, fun _ h => by cases h⟩ (
    .cons ⟨_, (fnAt_no rfl (d30.fn X G (fun _ _ _ _ _ _ us hl => match us, hl with | [_, _], _ => rfl))), sc_L_members, rfl, fun _ => ck_L_members, fun _ h => by cases h⟩ (
    .cons ⟨_, (fnAt_no rfl (d31.fn X G (fun _ _ _ _ _ _ us hl => match us, hl with | [_, _, _], _ => rfl))), sc_L_led, rfl, fun _ => ck_L_led, fun _ h => by cases h⟩ (
    .cons ⟨_, (fnAt_no rfl (d32.fn X G (fun _ _ _ _ _ _ us hl => match us, hl with | [_, _, _, _], _ => rfl))), sc_L_sequence, rfl, fun _ => ck_L_sequence, fun _ h => by cases h⟩ (
    .cons ⟨_, (fnAt_no rfl (d33.fn X G (fun _ _ _ _ _ _ us hl => match us, hl with | [_, _, _], _ => rfl))), sc_L_walked, rfl, fun _ => ck_L_walked, fun _ h => by cases h⟩ (
    .cons ⟨_, (fnAt_no rfl (d34.fn X G (fun _ _ _ _ _ _ us hl => match us, hl with | [_], _ => rfl))), sc_L_last_told, rfl, fun _ => ck_L_last_told, fun _ h => by cases h⟩ (
    .cons ⟨_, (fnAt_no rfl (d35.fn X G (fun _ _ _ _ _ _ us hl => match us, hl with | [_, _], _ => rfl))), sc_L_less_told, rfl, fun _ => ck_L_less_told, fun _ h => by cases h⟩ (
    .cons ⟨_, (fnAt_no rfl (d36.fn X G (fun _ _ _ _ _ _ us hl => match us, hl with | [_, _, _], _ => rfl))), sc_L_passage_so, rfl, fun _ => ck_L_passage_so, fun _ h => by cases h⟩ (
    .cons ⟨_, (fnAt_no rfl (d37.fn X G (fun _ _ _ _ _ _ us hl => match us, hl with | [_], _ => rfl))), sc_law, rfl, fun _ => ck_law, fun _ h => by cases h⟩ (.nil))))))))))))))))))))))))))))))))))))))
  have hcl : ∀ (c : Nat) (I : CInfo), Tb.cls.lookup c = some I → ∃ C, (fun c => [C0, C1, C2, C3, C4, C5, C6, C7, C8, C9][c]?) c = some C ∧ ClsOk K mg C I := by
    intro c I e
    unfold Tb at e
    rw [List.lookup_cons] at e
    cases hb8 : (c == 8) with
    | true =>
      rw [hb8] at e; cases e
      have hx : c = 8 := by simpa using hb8
      subst hx
      exact ⟨C8, rfl, cc8.ok X G (.cons n8_0 (.cons n8_1 (.nil))) (.cons ⟨(.int 5), _, ⟨u8_0, ⟨_, rfl⟩, g8_0, by decide +kernel⟩, rfl⟩ (.cons ⟨(.int 4), _, ⟨u8_1, ⟨_, rfl⟩, g8_1, by decide +kernel⟩, rfl⟩ (.nil)))⟩
    | false =>
    rw [hb8] at e
    rw [List.lookup_cons] at e
    cases hb9 : (c == 9) with
    | true =>
      rw [hb9] at e; cases e
      have hx : c = 9 := by simpa using hb9
      subst hx
      exact ⟨C9, rfl, cc9.ok X G (.cons n9_0 (.cons n9_1 (.cons n9_2 (.cons n9_3 (.cons n9_4 (.cons n9_5 (.cons n9_6 (.cons n9_7 (.nil))))))))) (.nil)⟩
    | false =>
    rw [hb9] at e
    cases e
  have bi : ∀ x ∈ Tb.bi, PySem.W.nsIn K mainGlobals x = some none := by
    intro x hx
    simp only [Tb, List.mem_cons, List.not_mem_nil, or_false] at hx
    rcases hx with rfl | rfl | rfl | rfl | rfl | rfl | rfl | rfl | rfl | rfl | rfl
    · exact z0
    · exact z1
    · exact z2
    · exact z3
    · exact z4
    · exact z5
    · exact z6
    · exact z7
    · exact z8
    · exact z9
    · exact z10
  have cs : ∀ x d, Tb.cs.lookup x = some d → ∃ v u, mg x = some u ∧ RelV v u ∧ d.v = some v := by
    intro x d e
    have e : List.lookup x [(("UNKNOWN" : Str), D.str "?"), (("_LONGEST_NAME" : Str), D.int 8)] = some d := e
    rw [List.lookup_cons] at e
    cases hb0 : (x == ("UNKNOWN" : Str)) with
    | true =>
      rw [hb0] at e; cases e
      have hx : x = ("UNKNOWN" : Str) := by simpa using hb0
      subst hx
      exact ⟨(.str "?"), (.str "?" t0), PySem.W.mg_of X G k0, ⟨_, rfl⟩, rfl⟩
    | false =>
    rw [hb0] at e
    rw [List.lookup_cons] at e
    cases hb1 : (x == ("_LONGEST_NAME" : Str)) with
    | true =>
      rw [hb1] at e; cases e
      have hx : x = ("_LONGEST_NAME" : Str) := by simpa using hb1
      subst hx
      exact ⟨(.int 8), (.int 8 t1), PySem.W.mg_of X G k1, ⟨_, rfl⟩, rfl⟩
    | false =>
    rw [hb1] at e
    cases e
  refine law_fn (Tb := Tb) (Pr := Pr) (f := F.law) (n := 14) (I := I_law) X G hfa hf hcl rfl ex bi cs rfl rfl rfl rfl law_true ?_
  intro fd ⟨oc, od, osl, lk⟩ s v
  obtain ⟨f, oc2, od2, an, osl2, kV, doc, pm, cdv, ct, a, lk2, c, k⟩ := d37.ex
  have e := hfa.symm.trans (PySem.W.mg_of X G a)
  cases e
  rw [lk] at lk2
  cases lk2
  exact .of_eq rfl
end Den
open PySem PySem.W PyProof.Rows
set_option maxHeartbeats 0 in
theorem PySem.Challenge.cw_formroads_k61_less_told_kinds_holds : PySem.Challenge.rw_formroads_k61_less_told_kinds.Holds := by
  w_on; o_law; k_head; (case hw => w_witness2)
  k_fill
  refine L2.walk_ofB (l := PySem.Challenge.rw_formroads_k61_less_told_kinds) (n := 63) (k := 2 * 14) (x := "_law_script") (CX := fun w => L2.CX PySem.Challenge.rw_formroads_k61_less_told_kinds.prog w) (sp := fun w => Den.spLaw _) rfl (by decide) rfl ⟨rfl, by decide, by decide⟩ (fun w h Y => PySem.W.kIn_of Y) ?F (fun _ _ a ns hl hb _ hS => ⟨a, ns, rfl, hS, hl, hb, fun _ => rfl⟩) (fun w H s e s' h => Den.cx_false w H s e s' h)
  case F =>
    intro w mg fa h KX G hmg
    refine' Den.law_all KX G hmg ?e0 ?e1 ?e2 ?e3 ?e4 ?e5 ?e6 ?e7 ?z0 ?z1 ?z2 ?z3 ?z4 ?z5 ?z6 ?z7 ?z8 ?z9 ?z10 ?k0 ?k1 ?cc8 ?n8_0 ?n8_1 ?u8_0 ?g8_0 ?u8_1 ?g8_1 ?cc9 ?n9_0 ?n9_1 ?n9_2 ?n9_3 ?n9_4 ?n9_5 ?n9_6 ?n9_7 ?d0 ?d1 ?d2 ?d3 ?d4 ?d5 ?d6 ?d7 ?d8 ?d9 ?d10 ?d11 ?d12 ?d13 ?d14 ?d15 ?d16 ?d17 ?d18 ?d19 ?d20 ?d21 ?d22 ?d23 ?d24 ?d25 ?d26 ?d27 ?d28 ?d29 ?d30 ?d31 ?d32 ?d33 ?d34 ?d35 ?d36 ?d37
    (case e0 => refine' ⟨?a, ?x, ?k, ?s, ?t, ?i, ?e, ?v, ?f⟩; (case a => k_is); (case x => k_exc); (case k => k_is); (case s => k_is); (case t => k_is); (case i => k_is); (case e => exact ⟨by k_is, by k_is, by k_is, by k_is, by k_is, by k_is, by k_is, by k_is⟩); (case v => k_is); (case f => k_is))
    (case e1 => refine' ⟨?a, ?x, ?k, ?s, ?t, ?i, ?e, ?v, ?f⟩; (case a => k_is); (case x => k_exc); (case k => k_is); (case s => k_is); (case t => k_is); (case i => k_is); (case e => exact ⟨by k_is, by k_is, by k_is, by k_is, by k_is, by k_is, by k_is, by k_is⟩); (case v => k_is); (case f => k_is))
    (case e2 => refine' ⟨?a, ?x, ?k, ?s, ?t, ?i, ?e, ?v, ?f⟩; (case a => k_is); (case x => k_exc); (case k => k_is); (case s => k_is); (case t => k_is); (case i => k_is); (case e => exact ⟨by k_is, by k_is, by k_is, by k_is, by k_is, by k_is, by k_is, by k_is⟩); (case v => k_is); (case f => k_is))
    (case e3 => refine' ⟨?a, ?x, ?k, ?s, ?t, ?i, ?e, ?v, ?f⟩; (case a => k_is); (case x => k_exc); (case k => k_is); (case s => k_is); (case t => k_is); (case i => k_is); (case e => exact ⟨by k_is, by k_is, by k_is, by k_is, by k_is, by k_is, by k_is, by k_is⟩); (case v => k_is); (case f => k_is))
    (case e4 => refine' ⟨?a, ?x, ?k, ?s, ?t, ?i, ?e, ?v, ?f⟩; (case a => k_is); (case x => k_exc); (case k => k_is); (case s => k_is); (case t => k_is); (case i => k_is); (case e => exact ⟨by k_is, by k_is, by k_is, by k_is, by k_is, by k_is, by k_is, by k_is⟩); (case v => k_is); (case f => k_is))
    (case e5 => refine' ⟨?a, ?x, ?k, ?s, ?t, ?i, ?e, ?v, ?f⟩; (case a => k_is); (case x => k_exc); (case k => k_is); (case s => k_is); (case t => k_is); (case i => k_is); (case e => exact ⟨by k_is, by k_is, by k_is, by k_is, by k_is, by k_is, by k_is, by k_is⟩); (case v => k_is); (case f => k_is))
    (case e6 => refine' ⟨?a, ?x, ?k, ?s, ?t, ?i, ?e, ?v, ?f⟩; (case a => k_is); (case x => k_exc); (case k => k_is); (case s => k_is); (case t => k_is); (case i => k_is); (case e => exact ⟨by k_is, by k_is, by k_is, by k_is, by k_is, by k_is, by k_is, by k_is⟩); (case v => k_is); (case f => k_is))
    (case e7 => refine' ⟨?a, ?x, ?k, ?s, ?t, ?i, ?e, ?v, ?f⟩; (case a => k_is); (case x => k_exc); (case k => k_is); (case s => k_is); (case t => k_is); (case i => k_is); (case e => exact ⟨by k_is, by k_is, by k_is, by k_is, by k_is, by k_is, by k_is, by k_is⟩); (case v => k_is); (case f => k_is))
    (case z0 => k_is)
    (case z1 => k_is)
    (case z2 => k_is)
    (case z3 => k_is)
    (case z4 => k_is)
    (case z5 => k_is)
    (case z6 => k_is)
    (case z7 => k_is)
    (case z8 => k_is)
    (case z9 => k_is)
    (case z10 => k_is)
    (case k0 => k_is)
    (case k1 => k_is)
    (case cc8 => refine' ⟨?a, ?b, ?c, ?d, ?e, ?f, ?g⟩; (case a => k_is); (case b => k_is); (case c => k_is); (case d => k_is); (case e => k_is); (case f => k_is); (case g => k_is))
    (case n8_0 => k_is)
    (case n8_1 => k_is)
    (case u8_0 => k_is)
    (case g8_0 => k_is)
    (case u8_1 => k_is)
    (case g8_1 => k_is)
    (case cc9 => refine' ⟨?a, ?b, ?c, ?d, ?e, ?f, ?g⟩; (case a => k_is); (case b => k_is); (case c => k_is); (case d => k_is); (case e => k_is); (case f => k_is); (case g => k_is))
    (case n9_0 => k_is)
    (case n9_1 => k_is)
    (case n9_2 => k_is)
    (case n9_3 => k_is)
    (case n9_4 => k_is)
    (case n9_5 => k_is)
    (case n9_6 => k_is)
    (case n9_7 => k_is)
    (case d0 => exact Den.defAt (by k_is) (by k_is) (by k_is) (by k_is))
    (case d1 => exact Den.defAt (by k_is) (by k_is) (by k_is) (by k_is))
    (case d2 => exact Den.defAt (by k_is) (by k_is) (by k_is) (by k_is))
    (case d3 => exact Den.defAt (by k_is) (by k_is) (by k_is) (by k_is))
    (case d4 => exact Den.methAt (by k_is) (by k_is) (by k_is) (by k_is) (by k_is))
    (case d5 => exact Den.methAt (by k_is) (by k_is) (by k_is) (by k_is) (by k_is))
    (case d6 => exact Den.methAt (by k_is) (by k_is) (by k_is) (by k_is) (by k_is))
    (case d7 => exact Den.methAt (by k_is) (by k_is) (by k_is) (by k_is) (by k_is))
    (case d8 => exact Den.methAt (by k_is) (by k_is) (by k_is) (by k_is) (by k_is))
    (case d9 => exact Den.methAt (by k_is) (by k_is) (by k_is) (by k_is) (by k_is))
    (case d10 => exact Den.methAt (by k_is) (by k_is) (by k_is) (by k_is) (by k_is))
    (case d11 => exact Den.methAt (by k_is) (by k_is) (by k_is) (by k_is) (by k_is))
    (case d12 => exact Den.methAt (by k_is) (by k_is) (by k_is) (by k_is) (by k_is))
    (case d13 => exact Den.methAt (by k_is) (by k_is) (by k_is) (by k_is) (by k_is))
    (case d14 => exact Den.methAt (by k_is) (by k_is) (by k_is) (by k_is) (by k_is))
    (case d15 => exact Den.statAt (by k_is) (by k_is) (by k_is) (by k_is) (by k_is) (by k_is) (by k_is))
    (case d16 => exact Den.methAt (by k_is) (by k_is) (by k_is) (by k_is) (by k_is))
    (case d17 => exact Den.methAt (by k_is) (by k_is) (by k_is) (by k_is) (by k_is))
    (case d18 => exact Den.methAt (by k_is) (by k_is) (by k_is) (by k_is) (by k_is))
    (case d19 => exact Den.methAt (by k_is) (by k_is) (by k_is) (by k_is) (by k_is))
    (case d20 => exact Den.methAt (by k_is) (by k_is) (by k_is) (by k_is) (by k_is))
    (case d21 => exact Den.methAt (by k_is) (by k_is) (by k_is) (by k_is) (by k_is))
    (case d22 => exact Den.defAt (by k_is) (by k_is) (by k_is) (by k_is))
    (case d23 => exact Den.defAt (by k_is) (by k_is) (by k_is) (by k_is))
    (case d24 => exact Den.defAt (by k_is) (by k_is) (by k_is) (by k_is))
    (case d25 => exact Den.defAt (by k_is) (by k_is) (by k_is) (by k_is))
    (case d26 => exact Den.defAt (by k_is) (by k_is) (by k_is) (by k_is))
    (case d27 => exact Den.defAt (by k_is) (by k_is) (by k_is) (by k_is))
    (case d28 => exact Den.defAt (by k_is) (by k_is) (by k_is) (by k_is))
    (case d29 => exact Den.defAt (by k_is) (by k_is) (by k_is) (by k_is))
    (case d30 => exact Den.defAt (by k_is) (by k_is) (by k_is) (by k_is))
    (case d31 => exact Den.defAt (by k_is) (by k_is) (by k_is) (by k_is))
    (case d32 => exact Den.defAt (by k_is) (by k_is) (by k_is) (by k_is))
    (case d33 => exact Den.defAt (by k_is) (by k_is) (by k_is) (by k_is))
    (case d34 => exact Den.defAt (by k_is) (by k_is) (by k_is) (by k_is))
    (case d35 => exact Den.defAt (by k_is) (by k_is) (by k_is) (by k_is))
    (case d36 => exact Den.defAt (by k_is) (by k_is) (by k_is) (by k_is))
    (case d37 => exact Den.defAt (by k_is) (by k_is) (by k_is) (by k_is))
