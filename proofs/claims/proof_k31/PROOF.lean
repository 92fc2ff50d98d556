import PyProof.Rows.All
import Wide.All
import OpenK.AllK
import Wide.FinOn
import HandS.ForMost
import HandS.Defaults
import HandS.Star
import HandS.Gcd
import HandS.Wide
import HandS.HeadHook4
import HandS.NoneIn
import HandS.IsInst
import HandS.Zip
import HandS.HeadEnd
import HandS.Head3
import HandS.Property
import HandS.MakeKw
import HandS.MakeKwOnly
import HandS.More
import HandS.ClsMeth
import KE.GoesNew
import KE.GoesMore
import HandS.HotCalls
import HandS.ExcInit
import HandS.ExcInitHot
import HandS.ExcCtx
import HandS.ExcField
import HandS.ExcOwn
import KE.KExcIs
import HandS.Text
import HandS.StrMore
import HandS.FStr
import HandS.Style
import HandS.WideBits
import HandS.DictComp
import HandS.Walk
import PySem.Challenge.RW_bandheld_k31_wires_buffers_hops_told
set_option Elab.async false
set_option linter.all false
set_option maxRecDepth 100000
set_option maxHeartbeats 1000000
/-! The layer over the hand layer: what is kept from heap to heap, amounts as rational numbers, readings step by step. -/
namespace Yk
open PySem PySem.Spec PyProof.Rows L2

/-! ### what is kept: all that is tracked, but what stands at S -/
def Ext (S : List Addr) (H H' : Hp) : Prop := ∀ a o, H a = some o → a ∉ S → H' a = some o
theorem Ext.refl {S : List Addr} {H : Hp} : Ext S H H := fun _ _ h _ => h
theorem Ext.trans {S : List Addr} {H H1 H2 : Hp} (a : Ext S H H1) (b : Ext S H1 H2) : Ext S H H2 := fun x o h n => b x o (a x o h n) n
theorem Ext.mono {S T : List Addr} {H H1 : Hp} (a : Ext S H H1) (h : ∀ x ∈ S, x ∈ T) : Ext T H H1 := fun x o e n => a x o e fun z => n (h x z)
theorem Ext.of0 {T : List Addr} {H H1 : Hp} (a : Ext [] H H1) : Ext T H H1 := a.mono fun _ z => nomatch z
theorem Ext.new {S : List Addr} {H H1 : Hp} {p : Addr} {o : HO} (e : Ext S H H1) (h : H1 p = none) : Ext S H (upd H1 p o) := fun a u ha n => by
  have h1 := e a u ha n
  rw [upd_ne (ne_of_none h1 h)]
  exact h1
theorem Ext.at_ {S : List Addr} {H H1 : Hp} {p : Addr} {o : HO} (e : Ext S H H1) (h : p ∈ S) : Ext S H (upd H1 p o) := fun a u ha n => by
  have h1 : a ≠ p := fun z => n (by rw [z]; exact h)
  rw [upd_ne h1]
  exact e a u ha n
/-- what is new to H may change -/
theorem Ext.own {S : List Addr} {H H1 : Hp} {p : Addr} {o : HO} (e : Ext S H H1) (h : H p = none) : Ext S H (upd H1 p o) := fun a u ha n => by
  rw [upd_ne (ne_of_none ha h)]
  exact e a u ha n
theorem Ext.free {H H1 : Hp} (e : Ext [] H H1) {p : Addr} (h : H1 p = none) : H p = none := by
  cases h1 : H p with
  | none => rfl
  | some o =>
    rw [e p o h1 (fun z => nomatch z)] at h
    cases h
theorem Ext.freeS {S : List Addr} {H H1 : Hp} (e : Ext S H H1) {p : Addr} (h : H1 p = none) (hs : ∀ a ∈ S, H1 a ≠ none) : H p = none := by
  cases h1 : H p with
  | none => rfl
  | some o =>
    rw [e p o h1 (fun z => hs p z h)] at h
    cases h

/-- the tuple at a, the list at a, carried on -/
theorem tupX {S : List Addr} {K : PySem.W.Frag} {H H1 : Hp} {a : Addr} {xs : List V} (e : Ext S H H1) (h : SqT K H a xs) (hs : ∀ b ∈ S, ∃ l, H b = some (.lst l)) : SqT K H1 a xs := by
  rcases h with (h | ⟨o, h⟩) | h
  · exact .inl (.inl (e a _ h fun z => by obtain ⟨l, q⟩ := hs a z; rw [h] at q; cases q))
  · exact .inl (.inr ⟨o, e a _ h fun z => by obtain ⟨l, q⟩ := hs a z; rw [h] at q; cases q⟩)
  · exact .inr h
theorem tup0 {K : PySem.W.Frag} {H H1 : Hp} {a : Addr} {xs : List V} (e : Ext [] H H1) (h : SqT K H a xs) : SqT K H1 a xs := tupX e h fun _ z => nomatch z
theorem tupN {K : PySem.W.Frag} {H : Hp} {a p : Addr} {o : HO} {xs : List V} (h : SqT K H a xs) (hp : H p = none) : SqT K (upd H p o) a xs := tup0 (Ext.refl.new hp) h
theorem tupW {K : PySem.W.Frag} {H : Hp} {a p : Addr} {l l' : List V} {xs : List V} (h : SqT K H a xs) (hp : H p = some (.lst l)) : SqT K (upd H p (.lst l')) a xs :=
  tupX (S := [p]) (Ext.refl.at_ List.mem_cons_self) h fun b hb => by rw [List.mem_singleton.mp hb]; exact ⟨l, hp⟩
theorem tupS {K : PySem.W.Frag} {H : Hp} {p : Addr} {xs : List V} : SqT K (upd H p (.tup xs)) p xs := .inl (.inl upd_same)
theorem lstX {S : List Addr} {K : PySem.W.Frag} {H H1 : Hp} {a : Addr} {xs : List V} (e : Ext S H H1) (h : SqL K H a xs) (hs : a ∉ S) : SqL K H1 a xs := by
  rcases h with (h | ⟨o, h⟩) | h
  · exact .inl (.inl (e a _ h hs))
  · exact .inl (.inr ⟨o, e a _ h hs⟩)
  · exact .inr h
theorem lst0 {K : PySem.W.Frag} {H H1 : Hp} {a : Addr} {xs : List V} (e : Ext [] H H1) (h : SqL K H a xs) : SqL K H1 a xs := lstX e h fun z => nomatch z
theorem lstN {K : PySem.W.Frag} {H : Hp} {a p : Addr} {o : HO} {xs : List V} (h : SqL K H a xs) (hp : H p = none) : SqL K (upd H p o) a xs := lst0 (Ext.refl.new hp) h
theorem lstS {K : PySem.W.Frag} {H : Hp} {p : Addr} {xs : List V} : SqL K (upd H p (.lst xs)) p xs := .inl (.inl upd_same)

/-! ### a def by its name -/
section
variable (P : Program) (w : World) (K : PySem.W.Frag) (mg : Str → Option Value) (base : Heap)
structure Fn (k : Nat) (x : Str) (sp : Sp) : Prop where
  run : ∃ f, mg x = some (.ref f) ∧ PySem.W.keepIn K (.ref f) = true ∧ FnR P w K mg base CX0 k f sp
end
section
variable {X : Cx} {k : Nat} {sp : Sp} {x : Str} {p pos : Pos} {e : Expr} {es : List Expr} {t : TA}
def tR (sp : Sp) (t : TA) : TE := fun σ H Q => t σ H fun vs H1 => sp vs H1 Q E0
theorem pe_fn (F : Fn X.prog X.w X.K X.mg X.base k x sp) (hr : Room k X.A) (ha : PA X (e :: es) t) (hg : Gl X x := by rfl) (hdb : (x == ("__debug__" : Str)) = false := by decide)
    (hx : Passes CX0 X E0 := by exact pass0)
    (he : starEach (e :: es) X.env = (false, eval e X.env) :: starEach es X.env := by rfl) (hpl : (backTo pos (starEach es X.env)).any (·.1) = false := by rfl) :
    PE X (.Call (.Name x p) (e :: es) [] pos) (tR sp t) := by
  obtain ⟨f, hm, hk, F⟩ := F.run
  refine ⟨fun pins s σ H Q I h => ?_⟩
  refine wpAny_Call_Name_kw (ld_glob I hg hm ?_ hdb)
  refine PySem.W.callWith_K (h₀ := X.base) I.ok.mod.kin hk (thn (ha.run pos pins s σ H _ I h) fun us s1 ⟨vs, H1, I1, r, q⟩ => ⟨I1.kIn, ?_⟩) he hpl
  exact wpAny_call (run_fnR F hr hx I1 r q)
theorem Fn.mono {P : Program} {w : World} {K : PySem.W.Frag} {mg : Str → Option Value} {base : Heap} {j k : Nat} {x : Str} {sp : Sp} (F : Fn P w K mg base j x sp) (h : j ≤ k) : Fn P w K mg base k x sp := by
  obtain ⟨f, hm, hk, F⟩ := F.run
  exact ⟨f, hm, hk, F.mono h⟩
end
/-- how a def of the text keeps a promise -/
theorem fn_def {P : Program} {w : World} {K : PySem.W.Frag} {mg : Str → Option Value} {base : Heap} {x : Str} {params : Arguments} {body : List Stmt} {scope : Scope} {f : Addr} {fd : FuncData} {N ps : List Str} {k : Nat} {sp : Sp}
    (F : FunD K x x params body scope [] [] f fd) (hm : mg x = some (.ref f)) (S : FnScope N ps scope) (len : ∀ vs H Q E, sp vs H Q E → vs.length = ps.length)
    (hb : ∀ (kV doc pm : Value) (an : Option Addr) (cdv ct : Value) (us : List Value), us.length = ps.length → bindArgs (PySem.W.fnOf x x params body scope .none kV doc pm an cdv ct) ⟨us, []⟩ = pure (ps.zip us))
    (hbody : ∀ (cdv : Value) (A : Around) (outer : List Env) (s : Shared) (H : Hp) (vs : List V) (Q : VK) (E : XK), Room k (A.deeper (envOfC x scope s.heap.objs.size f cdv)) → sp vs H Q E →
      ∃ t, PSs (cxOf CX0 P w K mg base N x scope f cdv A outer s H E).nox body t ∧ t ⟨fun _ H' => Q .non H', Q, fun _ _ => False, fun _ _ => False⟩ (start N vs) H) : Fn P w K mg base (k + 1) x sp := by
  have G : FnOk P w K mg base CX0 (k + 1) f fd ps sp := F.ok S len fun cdv A outer s H vs Q E hr h => by
    obtain ⟨t, h1, h2⟩ := hbody cdv A outer s H vs Q E hr h
    exact ⟨t, h1.nox, h2⟩
  have b := F.bindsN hb
  have R := G.raw b .nil
  refine ⟨f, hm, F.kp, R.imp fun vs H Q E h => ?_⟩
  rw [List.append_nil]
  exact h

/-! ### len, list by names -/
def rLn (K : PySem.W.Frag) : List V → Hp → VK → Prop := fun xs H Q => ∃ p ys, xs = [.ref p] ∧ (SqL K H p ys ∨ SqT K H p ys) ∧ Q (.int ys.length) H
def rLs (K : PySem.W.Frag) : List V → Hp → VK → Prop := fun xs H Q => ∃ p ys, xs = [.ref p] ∧ (SqL K H p ys ∨ SqT K H p ys) ∧ ∀ l, H l = none → Q (.ref l) (upd H l (.lst ys))
section
variable {X : Cx}
theorem cr_len : CallR X (.builtin "len") (rLn X.K) := call_len_seq
theorem cr_list : CallR X (.type "list") (rLs X.K) := call_list_of
end
/-! ### readings, one step each -/
section
variable {nx : L2.St → Hp → Prop} {rt : VK} {bk ct : L2.St → Hp → Prop} {σ : L2.St} {H : Hp} {K : PySem.W.Frag} {Q : VK} {t u : TS} {te ta tb : TE} {g : TG} {c : TT} {v x y : V}
theorem r_seq (h : t ⟨u ⟨nx, rt, bk, ct⟩, rt, bk, ct⟩ σ H) : tSeq t u ⟨nx, rt, bk, ct⟩ σ H := h
theorem r_next (h : nx σ H) : tNext ⟨nx, rt, bk, ct⟩ σ H := h
theorem r_asg (h : te σ H fun x H1 => g x σ H1 nx) : tAsg te g ⟨nx, rt, bk, ct⟩ σ H := h
theorem r_ret (h : te σ H rt) : tRet te ⟨nx, rt, bk, ct⟩ σ H := h
theorem r_drop (h : te σ H fun _ H1 => nx σ H1) : tDrop te ⟨nx, rt, bk, ct⟩ σ H := h
theorem r_ifS (h : c σ H fun b H1 => if b = true then t ⟨nx, rt, bk, ct⟩ σ H1 else u ⟨nx, rt, bk, ct⟩ σ H1) : tIfS c t u ⟨nx, rt, bk, ct⟩ σ H := h
theorem r_par {i j : Nat} {ta : TA} (h : ta σ H fun vs H1 => ∃ v w, vs = [v, w] ∧ nx ((σ.set i (some v)).set j (some w)) H1) : tPar i j ta ⟨nx, rt, bk, ct⟩ σ H := h
theorem r_name {i : Nat} {R : L2.St → Hp → Prop} (h : R (σ.set i (some v)) H) : gName i v σ H R := h
theorem r_gTup {n : Nat} {ts : TGs} {a : Addr} {xs : List V} {R : L2.St → Hp → Prop} (h1 : SqT K H a xs) (h2 : xs.length = n) (h : ts xs σ H R) : gTup K n ts (.ref a) σ H R := ⟨a, xs, rfl, h1, h2, h⟩
theorem r_gCons {ts : TGs} {vs : List V} {R : L2.St → Hp → Prop} (h : g v σ H fun σ' H' => ts vs σ' H' R) : gCons g ts (v :: vs) σ H R := ⟨v, vs, rfl, h⟩
theorem r_gNil {R : L2.St → Hp → Prop} (h : R σ H) : gNil [] σ H R := ⟨rfl, h⟩
theorem r_gSub {to ti : TE} {ts : TSet} {R : L2.St → Hp → Prop} (h : to σ H fun o H1 => ti σ H1 fun i H2 => ts o i v H2 fun H3 => R σ H3) : gSub to ti ts v σ H R := h
theorem r_var {i : Nat} (h1 : σ[i]? = some (some v)) (h : Q v H) : tVar i σ H Q := ⟨v, h1, h⟩
theorem r_c (h : Q v H) : tC v σ H Q := h
theorem r_op {r : R2} (h : ta σ H fun x H1 => tb σ H1 fun y H2 => r x y H2 Q) : tOp r ta tb σ H Q := h
theorem r_un {r : V → Hp → VK → Prop} (h : ta σ H fun x H1 => r x H1 Q) : tUn r ta σ H Q := h
theorem r_I0 {f : Int → Int → V} {i j : Int} (h : Q (f i j) H) : rI0 f (.int i) (.int j) H Q := ⟨i, j, rfl, rfl, h⟩
theorem r_I {C : Int → Int → Prop} {f : Int → Int → V} {i j : Int} (hc : C i j) (h : Q (f i j) H) : rI C f (.int i) (.int j) H Q := ⟨i, j, rfl, rfl, hc, h⟩
theorem r_U {f : Int → V} {i : Int} (h : Q (f i) H) : rU f (.int i) H Q := ⟨i, rfl, h⟩
theorem r_ixT {p : Addr} {xs : List V} {i : Int} (h1 : SqT K H p xs) (h2 : atI xs i = some v) (h : Q v H) : rIxT K (.ref p) (.int i) H Q := ⟨p, xs, i, v, rfl, rfl, h1, h2, h⟩
theorem r_ixL {p : Addr} {xs : List V} {i : Int} (h1 : SqL K H p xs) (h2 : atI xs i = some v) (h : Q v H) : rIxL K (.ref p) (.int i) H Q := ⟨p, xs, i, v, rfl, rfl, h1, h2, h⟩
theorem r_cons {t : TA} {R : List V → Hp → Prop} (h : ta σ H fun x H1 => t σ H1 fun xs H2 => R (x :: xs) H2) : tCons ta t σ H R := h
theorem r_nil {R : List V → Hp → Prop} (h : R [] H) : tNil σ H R := h
theorem r_tup {t : TA} (h : t σ H fun xs H1 => xs.length ≤ sizeLine ∧ ∀ p, H1 p = none → Q (.ref p) (upd H1 p (.tup xs))) : tTup t σ H Q := h
theorem r_lst {t : TA} (h : t σ H fun xs H1 => xs.length ≤ sizeLine ∧ ∀ p, H1 p = none → Q (.ref p) (upd H1 p (.lst xs))) : tLst t σ H Q := h
theorem r_CB {r : List V → Hp → VK → Prop} {t : TA} (h : t σ H fun vs H1 => r vs H1 Q) : tCB r t σ H Q := h
theorem r_R {sp : Sp} {t : TA} (h : t σ H fun vs H1 => sp vs H1 Q E0) : tR sp t σ H Q := h
theorem r_gcd {a b : Int} (h : Q (.int ((Nat.gcd a.natAbs b.natAbs : Nat) : Int)) H) : rGcd [.int a, .int b] H Q := ⟨a, b, rfl, h⟩
theorem r_test {R : Bool → Hp → Prop} (h : te σ H fun x H' => ∃ k, x = .bl k ∧ R k H') : tTest te σ H R := h
theorem r_B {R : Bool → Hp → Prop} (h : te σ H fun x H' => ∃ k, x = .bl k ∧ R k H') : tB te σ H R := h
theorem r_bl {b : Bool} {R : Bool → Prop} (h : R b) : ∃ k, V.bl b = .bl k ∧ R k := ⟨b, rfl, h⟩
theorem r_if (h : c σ H fun b H1 => if b = true then ta σ H1 Q else tb σ H1 Q) : tIf c ta tb σ H Q := h
theorem r_and {d : TT} {R : Bool → Hp → Prop} (h : c σ H fun b H1 => if b = true then d σ H1 R else R false H1) : tAnd c d σ H R := h
theorem r_or {d : TT} {R : Bool → Hp → Prop} (h : c σ H fun b H1 => if b = true then R true H1 else d σ H1 R) : tOr c d σ H R := h
theorem r_not {R : Bool → Hp → Prop} (h : c σ H fun b H1 => R (!b) H1) : tNot c σ H R := h
theorem r_eq (hs : scal x y = true) (h : Q (.bl (decide (x = y))) H) : rEq x y H Q := ⟨hs, h⟩
theorem r_ne (hs : scal x y = true) (h : Q (.bl (!decide (x = y))) H) : rNe x y H Q := ⟨hs, h⟩
theorem r_dec {p : Prop} [Decidable p] {A B : Prop} (h1 : p → A) (h2 : ¬ p → B) : if decide p = true then A else B := by
  by_cases hp : p
  · rw [decide_eq_true hp, if_pos rfl]; exact h1 hp
  · rw [decide_eq_false hp, if_neg (by decide)]; exact h2 hp
theorem r_forT {i : Nat} {a : Addr} {xs : List V} (h1 : σ[i]? = some (some (.ref a))) (h2 : SqT K H a xs) (Pv : Nat → L2.St → Hp → Prop) (h0 : Pv 0 σ H) (hl : ∀ i σ H, i ≤ xs.length → Pv i σ H → SqT K H a xs)
    (hs : ∀ i x σ H, xs[i]? = some x → Pv i σ H → g x σ H fun σ2 H2 => t ⟨Pv (i + 1), rt, nx, Pv (i + 1)⟩ σ2 H2) (hd : ∀ σ H, Pv xs.length σ H → nx σ H) : tFor (iTup K (tVar i)) g t ⟨nx, rt, bk, ct⟩ σ H :=
  ⟨_, h1, a, rfl, ⟨xs, h2⟩, for_tup Pv h0 hl hs hd⟩
theorem r_forL {i : Nat} {a : Addr} {xs : List V} (h1 : σ[i]? = some (some (.ref a))) (h2 : SqL K H a xs) (Pv : Nat → L2.St → Hp → Prop) (h0 : Pv 0 σ H) (hl : ∀ i σ H, i ≤ xs.length → Pv i σ H → SqL K H a xs)
    (hs : ∀ i x σ H, xs[i]? = some x → Pv i σ H → g x σ H fun σ2 H2 => t ⟨Pv (i + 1), rt, nx, Pv (i + 1)⟩ σ2 H2) (hd : ∀ σ H, Pv xs.length σ H → nx σ H) : tFor (iList K (tVar i)) g t ⟨nx, rt, bk, ct⟩ σ H :=
  ⟨_, h1, a, rfl, ⟨xs, h2⟩, for_list Pv h0 hl hs hd⟩
theorem r_for {wi : TI} (h : wi σ H fun J H1 => ∃ W : Nat → Nat → L2.St → Hp → Prop, (∃ m, W 0 m σ H1) ∧ ∀ i m σ H, W i m σ H →
  (J.stop i H ∧ nx σ H) ∨ (J.go i H ∧ ∃ N : L2.St → Hp → Prop, (∀ σ' H', N σ' H' → ∃ m', m' < m ∧ W (i + 1) m' σ' H') ∧ ∀ x H', J.yld i H x H' → g x σ H' fun σ2 H2 => t ⟨N, rt, nx, N⟩ σ2 H2)) : tFor wi g t ⟨nx, rt, bk, ct⟩ σ H := h
theorem r_iList {tl : TE} {R : It → Hp → Prop} (h : tl σ H fun x H1 => ∃ a, x = .ref a ∧ (∃ xs, SqL K H1 a xs) ∧ R (Itl K a) H1) : iList K tl σ H R := h
theorem r_iTup {tl : TE} {R : It → Hp → Prop} (h : tl σ H fun x H1 => ∃ a, x = .ref a ∧ (∃ xs, SqT K H1 a xs) ∧ R (Itt K a) H1) : iTup K tl σ H R := h
theorem r_iRng1 {ta : TA} {R : It → Hp → Prop} (h : ta σ H fun vs H1 => ∃ j : Int, vs = [.int j] ∧ -(2 ^ 62) ≤ j ∧ j < 2 ^ 62 ∧ R (Itr 0 j.toNat) H1) : iRng1 ta σ H R := h
theorem r_loopL {a : Addr} {xs : List V} (Pv : Nat → L2.St → Hp → Prop) (h0 : Pv 0 σ H) (hl : ∀ i σ H, i ≤ xs.length → Pv i σ H → SqL K H a xs)
    (hs : ∀ i x σ H, xs[i]? = some x → Pv i σ H → g x σ H fun σ2 H2 => t ⟨Pv (i + 1), rt, nx, Pv (i + 1)⟩ σ2 H2) (hd : ∀ σ H, Pv xs.length σ H → nx σ H) :
    ∃ W : Nat → Nat → L2.St → Hp → Prop, (∃ m, W 0 m σ H) ∧ ∀ i m σ H, W i m σ H →
      ((Itl K a).stop i H ∧ nx σ H) ∨ ((Itl K a).go i H ∧ ∃ N : L2.St → Hp → Prop, (∀ σ' H', N σ' H' → ∃ m', m' < m ∧ W (i + 1) m' σ' H') ∧ ∀ x H', (Itl K a).yld i H x H' → g x σ H' fun σ2 H2 => t ⟨N, rt, nx, N⟩ σ2 H2) :=
  for_list (D := ⟨nx, rt, nx, nx⟩) Pv h0 hl hs hd
theorem r_loopT {a : Addr} {xs : List V} (Pv : Nat → L2.St → Hp → Prop) (h0 : Pv 0 σ H) (hl : ∀ i σ H, i ≤ xs.length → Pv i σ H → SqT K H a xs)
    (hs : ∀ i x σ H, xs[i]? = some x → Pv i σ H → g x σ H fun σ2 H2 => t ⟨Pv (i + 1), rt, nx, Pv (i + 1)⟩ σ2 H2) (hd : ∀ σ H, Pv xs.length σ H → nx σ H) :
    ∃ W : Nat → Nat → L2.St → Hp → Prop, (∃ m, W 0 m σ H) ∧ ∀ i m σ H, W i m σ H →
      ((Itt K a).stop i H ∧ nx σ H) ∨ ((Itt K a).go i H ∧ ∃ N : L2.St → Hp → Prop, (∀ σ' H', N σ' H' → ∃ m', m' < m ∧ W (i + 1) m' σ' H') ∧ ∀ x H', (Itt K a).yld i H x H' → g x σ H' fun σ2 H2 => t ⟨N, rt, nx, N⟩ σ2 H2) :=
  for_tup (D := ⟨nx, rt, nx, nx⟩) Pv h0 hl hs hd
theorem r_loopR {lo : Int} {n : Nat} (Pv : Nat → L2.St → Hp → Prop) (h0 : Pv 0 σ H)
    (hs : ∀ i σ H, i < n → Pv i σ H → g (.int (lo + i)) σ H fun σ2 H2 => t ⟨Pv (i + 1), rt, nx, Pv (i + 1)⟩ σ2 H2) (hd : ∀ σ H, Pv n σ H → nx σ H) :
    ∃ W : Nat → Nat → L2.St → Hp → Prop, (∃ m, W 0 m σ H) ∧ ∀ i m σ H, W i m σ H →
      ((Itr lo n).stop i H ∧ nx σ H) ∨ ((Itr lo n).go i H ∧ ∃ N : L2.St → Hp → Prop, (∀ σ' H', N σ' H' → ∃ m', m' < m ∧ W (i + 1) m' σ' H') ∧ ∀ x H', (Itr lo n).yld i H x H' → g x σ H' fun σ2 H2 => t ⟨N, rt, nx, N⟩ σ2 H2) :=
  for_range (D := ⟨nx, rt, nx, nx⟩) Pv h0 hs hd
theorem r_gUnl {n : Nat} {ts : TGs} {a : Addr} {xs : List V} {R : L2.St → Hp → Prop} (h1 : SqL K H a xs) (h2 : xs.length = n) (h : ts xs σ H R) : gUnl K n ts (.ref a) σ H R := ⟨a, xs, rfl, h1, h2, h⟩
theorem r_BM {T : String} {r : V → List V → Hp → VK → Prop} {to : TE} {ta : TA} (h : to σ H fun x H1 => tyV K T x H1 ∧ ta σ H1 fun xs H2 => r x xs H2 Q) : tBM K T r to ta σ H Q := h
theorem r_BM0 {T : String} {r : V → List V → Hp → VK → Prop} {to : TE} (h : to σ H fun x H1 => tyV K T x H1 ∧ r x [] H1 Q) : tBM0 K T r to σ H Q := h
theorem r_lc {wi : TI} {g : TG} {tt : TT} {te : TE} {vs : List Nat} (h : wi σ H fun J H1 => ∀ D, H1 D = none → ∃ W : Nat → Nat → Hp → Prop, (∃ m, W 0 m (upd H1 D (.lst []))) ∧ ∀ i m H, W i m H →
  (J.stop i H ∧ Q (.ref D) H) ∨ (J.go i H ∧ ∃ Nx : Hp → Prop, (∀ H', Nx H' → ∃ m', m' < m ∧ W (i + 1) m' H') ∧ ∀ x H', J.yld i H x H' → g x (wipe σ vs) H' fun σ2 H2 => wipe σ2 vs = wipe σ vs ∧ tt σ2 H2 fun b H3 =>
    if b = true then te σ2 H3 fun y H4 => ∃ acc, H4 D = some (.lst acc) ∧ acc.length < sizeLine ∧ Nx (upd H4 D (.lst (acc ++ [y]))) else Nx H3)) : tLc wi g tt te vs σ H Q := h
theorem r_yes {R : Bool → Hp → Prop} (h : R true H) : tYes σ H R := h
theorem r_tt {A B : Prop} (h : A) : if true = true then A else B := by rw [if_pos rfl]; exact h
theorem r_popAt {l : Addr} {xs : List V} {i : Int} {k : Nat} {y : V} (h1 : H l = some (.lst xs)) (h2 : i = (k : Int)) (h3 : xs[k]? = some y) (h4 : xs.length ≤ 4000) (h : Q y (upd H l (.lst (xs.eraseIdx k)))) : rPopAt (.ref l) [.int i] H Q := by
  have hk : k < xs.length := (List.getElem?_eq_some_iff.mp h3).1
  have e : ixN xs.length i = some k := by
    unfold ixN
    rw [if_pos (by omega), if_pos (by omega), h2, Int.toNat_natCast]
  exact ⟨l, xs, i, k, y, rfl, rfl, h1, by omega, by omega, (ixN_seq e).1, h3, h⟩
theorem r_lcR {lo : Int} {n : Nat} {g : TG} {tt : TT} {te : TE} {vs : List Nat} {D : Addr} {Qd : Hp → Prop} (Pv : Nat → Hp → Prop) (h0 : Pv 0 (upd H D (.lst [])))
    (hs : ∀ i H, i < n → Pv i H → g (.int (lo + i)) (wipe σ vs) H fun σ2 H2 => wipe σ2 vs = wipe σ vs ∧ tt σ2 H2 fun b H3 =>
      if b = true then te σ2 H3 fun y H4 => ∃ acc, H4 D = some (.lst acc) ∧ acc.length < sizeLine ∧ Pv (i + 1) (upd H4 D (.lst (acc ++ [y]))) else Pv (i + 1) H3) (hd : ∀ H, Pv n H → Qd H) :
    ∃ W : Nat → Nat → Hp → Prop, (∃ m, W 0 m (upd H D (.lst []))) ∧ ∀ i m H, W i m H →
      ((Itr lo n).stop i H ∧ Qd H) ∨ ((Itr lo n).go i H ∧ ∃ Nx : Hp → Prop, (∀ H', Nx H' → ∃ m', m' < m ∧ W (i + 1) m' H') ∧ ∀ x H', (Itr lo n).yld i H x H' → g x (wipe σ vs) H' fun σ2 H2 => wipe σ2 vs = wipe σ vs ∧ tt σ2 H2 fun b H3 =>
        if b = true then te σ2 H3 fun y H4 => ∃ acc, H4 D = some (.lst acc) ∧ acc.length < sizeLine ∧ Nx (upd H4 D (.lst (acc ++ [y]))) else Nx H3) :=
  lc_range (Qd := Qd) Pv h0 hs hd
theorem r_lcL {a : Addr} {xs : List V} {g : TG} {tt : TT} {te : TE} {vs : List Nat} {D : Addr} {Qd : Hp → Prop} (Pv : Nat → Hp → Prop) (h0 : Pv 0 (upd H D (.lst []))) (hl : ∀ i H, i ≤ xs.length → Pv i H → SqL K H a xs)
    (hs : ∀ i x H, xs[i]? = some x → Pv i H → g x (wipe σ vs) H fun σ2 H2 => wipe σ2 vs = wipe σ vs ∧ tt σ2 H2 fun b H3 =>
      if b = true then te σ2 H3 fun y H4 => ∃ acc, H4 D = some (.lst acc) ∧ acc.length < sizeLine ∧ Pv (i + 1) (upd H4 D (.lst (acc ++ [y]))) else Pv (i + 1) H3) (hd : ∀ H, Pv xs.length H → Qd H) :
    ∃ W : Nat → Nat → Hp → Prop, (∃ m, W 0 m (upd H D (.lst []))) ∧ ∀ i m H, W i m H →
      ((Itl K a).stop i H ∧ Qd H) ∨ ((Itl K a).go i H ∧ ∃ Nx : Hp → Prop, (∀ H', Nx H' → ∃ m', m' < m ∧ W (i + 1) m' H') ∧ ∀ x H', (Itl K a).yld i H x H' → g x (wipe σ vs) H' fun σ2 H2 => wipe σ2 vs = wipe σ vs ∧ tt σ2 H2 fun b H3 =>
        if b = true then te σ2 H3 fun y H4 => ∃ acc, H4 D = some (.lst acc) ∧ acc.length < sizeLine ∧ Nx (upd H4 D (.lst (acc ++ [y]))) else Nx H3) :=
  lc_list (Qd := Qd) Pv h0 hl hs hd
theorem r_true {c : Bool} {A B : Prop} (hc : c = true) (h : A) : if c = true then A else B := by rw [if_pos hc]; exact h
theorem r_false {c : Bool} {A B : Prop} (hc : c = false) (h : B) : if c = true then A else B := by rw [hc, if_neg (by decide)]; exact h
theorem len_is {n : Nat} {k : Int} (h : (n : Int) = k) : decide (V.int (n : Int) = V.int k) = true := decide_eq_true (by rw [h])
theorem len_not {n : Nat} {k : Int} (h : (n : Int) ≠ k) : decide (V.int (n : Int) = V.int k) = false := decide_eq_false fun z => h (V.int.inj z)
theorem r_lcZL {a b : Addr} {xs ys : List V} {g : TG} {tt : TT} {te : TE} {vs : List Nat} {D : Addr} {Qd : Hp → Prop} (hl : xs.length = ys.length) (Pv : Nat → Hp → Prop) (h0 : Pv 0 (upd H D (.lst []))) (hq : ∀ i H, Pv i H → SqL K H a xs ∧ SqL K H b ys)
    (hs : ∀ (i : Nat) (x y : V) (T : Addr) (H : Hp), xs[i]? = some x → ys[i]? = some y → Pv i H → H T = none → g (.ref T) (wipe σ vs) (upd H T (.tup [x, y])) fun σ2 H2 => wipe σ2 vs = wipe σ vs ∧ tt σ2 H2 fun b H3 =>
      if b = true then te σ2 H3 fun y H4 => ∃ acc, H4 D = some (.lst acc) ∧ acc.length < sizeLine ∧ Pv (i + 1) (upd H4 D (.lst (acc ++ [y]))) else Pv (i + 1) H3) (hd : ∀ H, Pv xs.length H → Qd H) :
    ∃ W : Nat → Nat → Hp → Prop, (∃ m, W 0 m (upd H D (.lst []))) ∧ ∀ i m H, W i m H →
      ((Itz K a b).stop i H ∧ Qd H) ∨ ((Itz K a b).go i H ∧ ∃ Nx : Hp → Prop, (∀ H', Nx H' → ∃ m', m' < m ∧ W (i + 1) m' H') ∧ ∀ x H', (Itz K a b).yld i H x H' → g x (wipe σ vs) H' fun σ2 H2 => wipe σ2 vs = wipe σ vs ∧ tt σ2 H2 fun b H3 =>
        if b = true then te σ2 H3 fun y H4 => ∃ acc, H4 D = some (.lst acc) ∧ acc.length < sizeLine ∧ Nx (upd H4 D (.lst (acc ++ [y]))) else Nx H3) := by
  refine ⟨fun i m H => m = xs.length - i ∧ i ≤ xs.length ∧ Pv i H, ⟨xs.length, rfl, Nat.zero_le _, h0⟩, ?_⟩
  rintro i m H ⟨rfl, hi, p⟩
  obtain ⟨qx, qy⟩ := hq i H p
  by_cases hlt : i < xs.length
  · have hx : xs[i]? = some xs[i] := List.getElem?_eq_getElem hlt
    have hlt2 : i < ys.length := by omega
    have hy : ys[i]? = some ys[i] := List.getElem?_eq_getElem hlt2
    refine .inr ⟨⟨xs, ys, _, _, qx, qy, hx, hy⟩, Pv (i + 1), fun H' p' => ⟨xs.length - (i + 1), by omega, rfl, hlt, p'⟩, fun v H' y => ?_⟩
    obtain ⟨T, x', y', rfl, hT, rfl, f1, f2⟩ := y
    exact hs i x' y' T _ (f1 xs qx) (f2 ys qy) p hT
  · have e : i = xs.length := by omega
    subst e
    exact .inl ⟨⟨xs, ys, qx, qy, .inl (Nat.le_refl _)⟩, hd H p⟩
theorem r_lcZT {a b : Addr} {xs ys : List V} {g : TG} {tt : TT} {te : TE} {vs : List Nat} {D : Addr} {Qd : Hp → Prop} (hl : xs.length = ys.length) (Pv : Nat → Hp → Prop) (h0 : Pv 0 (upd H D (.lst []))) (hq : ∀ i H, Pv i H → SqT K H a xs ∧ SqT K H b ys)
    (hs : ∀ (i : Nat) (x y : V) (T : Addr) (H : Hp), xs[i]? = some x → ys[i]? = some y → Pv i H → H T = none → g (.ref T) (wipe σ vs) (upd H T (.tup [x, y])) fun σ2 H2 => wipe σ2 vs = wipe σ vs ∧ tt σ2 H2 fun b H3 =>
      if b = true then te σ2 H3 fun y H4 => ∃ acc, H4 D = some (.lst acc) ∧ acc.length < sizeLine ∧ Pv (i + 1) (upd H4 D (.lst (acc ++ [y]))) else Pv (i + 1) H3) (hd : ∀ H, Pv xs.length H → Qd H) :
    ∃ W : Nat → Nat → Hp → Prop, (∃ m, W 0 m (upd H D (.lst []))) ∧ ∀ i m H, W i m H →
      ((RZ.ItzT K a b).stop i H ∧ Qd H) ∨ ((RZ.ItzT K a b).go i H ∧ ∃ Nx : Hp → Prop, (∀ H', Nx H' → ∃ m', m' < m ∧ W (i + 1) m' H') ∧ ∀ x H', (RZ.ItzT K a b).yld i H x H' → g x (wipe σ vs) H' fun σ2 H2 => wipe σ2 vs = wipe σ vs ∧ tt σ2 H2 fun b H3 =>
        if b = true then te σ2 H3 fun y H4 => ∃ acc, H4 D = some (.lst acc) ∧ acc.length < sizeLine ∧ Nx (upd H4 D (.lst (acc ++ [y]))) else Nx H3) := by
  refine ⟨fun i m H => m = xs.length - i ∧ i ≤ xs.length ∧ Pv i H, ⟨xs.length, rfl, Nat.zero_le _, h0⟩, ?_⟩
  rintro i m H ⟨rfl, hi, p⟩
  obtain ⟨qx, qy⟩ := hq i H p
  by_cases hlt : i < xs.length
  · have hx : xs[i]? = some xs[i] := List.getElem?_eq_getElem hlt
    have hlt2 : i < ys.length := by omega
    have hy : ys[i]? = some ys[i] := List.getElem?_eq_getElem hlt2
    refine .inr ⟨⟨xs, ys, _, _, qx, qy, hx, hy⟩, Pv (i + 1), fun H' p' => ⟨xs.length - (i + 1), by omega, rfl, hlt, p'⟩, fun v H' y => ?_⟩
    obtain ⟨T, x', y', rfl, hT, rfl, f1, f2⟩ := y
    exact hs i x' y' T _ (f1 xs qx) (f2 ys qy) p hT
  · have e : i = xs.length := by omega
    subst e
    exact .inl ⟨⟨xs, ys, qx, qy, .inl (Nat.le_refl _)⟩, hd H p⟩
theorem tyT {a : Addr} {xs : List V} (h : SqT K H a xs) : TyX K H (.ref a) (.type "tuple") := by
  rcases h with (h | ⟨o, h⟩) | ⟨o, its, n, h, c, _⟩
  · exact .base (.tup h)
  · exact .fTuple h
  · exact .kTuple h c
theorem tyL {a : Addr} {xs : List V} (h : SqL K H a xs) : TyX K H (.ref a) (.type "list") := by
  rcases h with (h | ⟨o, h⟩) | ⟨o, its, n, h, c, _⟩
  · exact .base (.lst h)
  · exact .base (.frz h)
  · exact .kList h c
theorem r_isi {T c : String} {b : Bool} (ht : TyX K H x (.type T)) (he : PySem.W.kitOne K (.type T) (.type c) = some b) (h : Q (.bl b) H) : rIsi K [x, .ty c] H Q := ⟨x, .ty c, .type T, .type c, b, rfl, .ty c, ht, he, h⟩
theorem r_isiT {T c1 c2 : String} {b : Bool} {p : Addr} (hp : H p = some (.tup [.ty c1, .ty c2])) (ht : TyX K H x (.type T)) (he : PySem.W.kitAny K (.type T) [.type c1, .type c2] = some b) (h : Q (.bl b) H) : rIsiT K [x, .ref p] H Q :=
  ⟨x, p, [.ty c1, .ty c2], .type T, [.type c1, .type c2], b, rfl, hp, .cons (.ty c1) (.cons (.ty c2) .nil), ht, he, h⟩
theorem r_andV (h : ta σ H fun x H1 => ∃ c, x = .bl c ∧ if c = true then tb σ H1 Q else Q (.bl false) H1) : tAndV ta tb σ H Q := h
theorem r_orV (h : ta σ H fun x H1 => ∃ c, x = .bl c ∧ if c = true then Q (.bl true) H1 else tb σ H1 Q) : tOrV ta tb σ H Q := h
theorem r_notV (h : ta σ H fun x H1 => ∃ c, x = .bl c ∧ Q (.bl (!c)) H1) : tNotV ta σ H Q := h
theorem r_all {a : Addr} {bs : List Bool} (h1 : SqL K H a (bs.map V.bl)) (h : Q (.bl (bs.all id)) H) : rAll K [.ref a] H Q := ⟨a, bs, rfl, h1, h⟩
theorem r_any {a : Addr} {bs : List Bool} (h1 : SqL K H a (bs.map V.bl)) (h : Q (.bl (bs.any id)) H) : rAny K [.ref a] H Q := ⟨a, bs, rfl, h1, h⟩
theorem r_iZip {ta : TA} {R : It → Hp → Prop} (h : ta σ H fun vs H1 => ∃ a b xs ys, vs = [.ref a, .ref b] ∧ ((SqL K H1 a xs ∧ SqL K H1 b ys ∧ R (Itz K a b) H1) ∨ (SqT K H1 a xs ∧ SqT K H1 b ys ∧ R (RZ.ItzT K a b) H1))) : RZ.iZipA K ta σ H R := h
theorem r_while (W : Nat → L2.St → Hp → Prop) (m : Nat) (h0 : W m σ H) (hs : ∀ m σ H, W m σ H → c σ H fun b H1 => if b = true then ∃ N : L2.St → Hp → Prop, (∀ σ' H', N σ' H' → ∃ m', m' < m ∧ W m' σ' H') ∧ t ⟨N, rt, nx, N⟩ σ H1 else nx σ H1) : tWhile c t ⟨nx, rt, bk, ct⟩ σ H :=
  ⟨W, ⟨m, h0⟩, hs⟩
theorem r_slL {te : TE} {tl th : TO} {r : V → Option Int → Option Int → Hp → VK → Prop} (h : te σ H fun x H1 => tl σ H1 fun l H2 => th σ H2 fun u H3 => r x l u H3 Q) : tSl r te tl th σ H Q := h
theorem r_noP {R : Option Int → Hp → Prop} (h : R none H) : tNoPart σ H R := h
theorem r_part {te : TE} {R : Option Int → Hp → Prop} (h : te σ H fun x H1 => ∃ i, x = .int i ∧ R (some i) H1) : tPart te σ H R := h
theorem r_exI {i : Int} {R : Int → Prop} (h : R i) : ∃ j, V.int i = .int j ∧ R j := ⟨i, rfl, h⟩
theorem r_slList {a : Addr} {xs : List V} {lo hi : Option Int} (h1 : SqL K H a xs) (h : ∀ p, H p = none → Q (.ref p) (upd H p (.lst (cutV xs lo hi)))) : rSlL K (.ref a) lo hi H Q := ⟨a, xs, rfl, h1, h⟩
theorem r_setL {p : Addr} {xs : List V} {k : Int} {j : Nat} {R : Hp → Prop} (h1 : H p = some (.lst xs)) (h2 : ixN xs.length k = some j) (h : R (upd H p (.lst (xs.set j v)))) : rSetL (.ref p) (.int k) v H R := ⟨p, xs, k, j, rfl, rfl, h1, h2, h⟩
theorem r_int {i : Int} {R : Int → Prop} {B : Prop} (h : R i) : (∃ j, [V.int i] = [.int j] ∧ R j) ∨ B := .inl ⟨i, rfl, h⟩
theorem r_len {p : Addr} {ys : List V} (h1 : SqL K H p ys ∨ SqT K H p ys) (h : Q (.int ys.length) H) : rLn K [.ref p] H Q := ⟨p, ys, rfl, h1, h⟩
theorem r_list {p : Addr} {ys : List V} (h1 : SqL K H p ys ∨ SqT K H p ys) (h : ∀ l, H l = none → Q (.ref l) (upd H l (.lst ys))) : rLs K [.ref p] H Q := ⟨p, ys, rfl, h1, h⟩
end
section
variable {X : Cx}
/-- a statement, then the rest, a word of one's own between them -/
def tMid (t u : TS) : TS := fun D σ H => ∃ M : L2.St → Hp → Prop, t ⟨M, D.rt, D.bk, D.ct⟩ σ H ∧ ∀ σ' H', M σ' H' → u D σ' H'
theorem pss_mid {st : Stmt} {rest : List Stmt} {t u : TS} (h1 : PS X st t) (h2 : PSs X rest u) : PSs X (st :: rest) (tMid t u) := by
  refine ⟨fun pins s σ H D I h => ?_⟩
  obtain ⟨M, hm, hu⟩ := h
  refine wpAny_execs_cons (thn (h1.run pins s σ H ⟨M, D.rt, D.bk, D.ct⟩ I hm) fun f s1 q => ?_)
  cases f with
  | next =>
    obtain ⟨σ', H', I', q⟩ := q
    exact h2.run pins s1 σ' H' D I' (hu σ' H' q)
  | ret v => exact q
  | brk => exact q
  | cont => exact q
theorem r_mid {t u : TS} {nx : L2.St → Hp → Prop} {rt : VK} {bk ct : L2.St → Hp → Prop} {σ : L2.St} {H : Hp} (M : L2.St → Hp → Prop) (h1 : t ⟨M, rt, bk, ct⟩ σ H) (h2 : ∀ σ' H', M σ' H' → u ⟨nx, rt, bk, ct⟩ σ' H') : tMid t u ⟨nx, rt, bk, ct⟩ σ H := ⟨M, h1, h2⟩
/-- a store into a list: the heap behind it by a name -/
theorem r_setB {K : PySem.W.Frag} {H : Hp} {b : Addr} {l : List V} {k : Int} {j : Nat} {v : V} {R : Hp → Prop} (h1 : H b = some (.lst l)) (h2 : ixN l.length k = some j) (l' : List V) (h3 : l.set j v = l')
    (h : ∀ H1, H1 b = some (.lst l') → Ext [b] H H1 → (∀ a xs, SqL K H a xs → xs ≠ l → SqL K H1 a xs) → R H1) : rSetL (.ref b) (.int k) v H R := by
  refine ⟨b, l, k, j, rfl, rfl, h1, h2, h _ ?_ (Ext.refl.at_ List.mem_cons_self) fun a xs q hd => ?_⟩
  · rw [h3]
    exact upd_same
  · rcases q with (q | ⟨u, q⟩) | q
    · exact .inl (.inl (by rw [upd_ne (fun z => hd (by rw [z, h1] at q; cases q; rfl))]; exact q))
    · exact .inl (.inr ⟨u, by rw [upd_ne (fun z => by rw [z, h1] at q; cases q)]; exact q⟩)
    · exact .inr q
end
section
variable {P : Program} {w : World} {K : PySem.W.Frag} {mg : Str → Option Value} {base : Heap}
/-- def f(a, .., *v) -/
theorem fn_star {x pv : Str} {params : Arguments} {body : List Stmt} {scope : Scope} {f : Addr} {fd : FuncData} {N ps : List Str} {k : Nat} {sp sp' : Sp}
    (F : FunD K x x params body scope [] [] f fd) (hm : mg x = some (.ref f)) (S : FnScope N (ps ++ [pv]) scope)
    (hb : ∀ (kV doc pm : Value) (an : Option Addr) (cdv ct : Value) (us rest : List Value), us.length = ps.length → bindArgs (PySem.W.fnOf x x params body scope .none kV doc pm an cdv ct) ⟨us ++ rest, []⟩ = (newTuple rest >>= fun t => pure (ps.zip us ++ [(pv, t)])))
    (hbody : ∀ (cdv : Value) (A : Around) (outer : List Env) (s : Shared) (H : Hp) (vs : List V) (Q : VK) (E : XK), Room k (A.deeper (envOfC x scope s.heap.objs.size f cdv)) → sp vs H Q E →
      ∃ t, PSs (cxOf CX0 P w K mg base N x scope f cdv A outer s H E).nox body t ∧ t ⟨fun _ H' => Q .non H', Q, fun _ _ => False, fun _ _ => False⟩ (start N vs) H)
    (himp : ∀ vs H Q E, sp' vs H Q E → ∃ ws rest, vs = ws ++ rest ∧ ws.length = ps.length ∧ rest.length ≤ sizeLine ∧ ∀ p, H p = none → sp (ws ++ [V.ref p]) (upd H p (.tup rest)) Q E) : Fn P w K mg base (k + 1) x sp' := by
  have kp := F.kp
  obtain ⟨oc, od, dV, kV, doc, pm, an, cdv, ct, osl, rfl, lk, hcd, hD, _⟩ := F.ex
  rcases hD with ⟨_, rfl⟩ | ⟨e, _⟩
  · have R := StX.fn_star (P := P) (w := w) (mg := mg) (base := base) (sp := sp) lk hcd S StX.cxUp_none (hb kV doc pm an cdv ct) (fun A outer s H vs Q E hr h => let ⟨t, h1, h2⟩ := hbody cdv A outer s H vs Q E hr h; ⟨t, h1.nox, h2⟩)
    exact ⟨f, hm, kp, R.imp himp⟩
  · exact absurd rfl e
end
end Yk

set_option maxHeartbeats 1000000
/-! Calls by name: two parameters, told in the other order. -/
namespace Yk
open PySem PySem.Spec PyProof.Rows L2
def sw2 {α : Type} (us ws : List α) : List α := match us, ws with
  | [], [a, b] => [b, a]
  | _, _ => []
theorem sw2_rel {vs : List V} {us : List Value} {zs : List V} {ws : List Value} (h1 : Vals vs us) (h2 : Vals zs ws) : Vals (sw2 vs zs) (sw2 us ws) := by
  cases h1 with
  | cons a b => exact .nil
  | nil =>
    cases h2 with
    | nil => exact .nil
    | cons a h2 =>
      cases h2 with
      | nil => exact .nil
      | cons b h2 =>
        cases h2 with
        | nil => exact .cons b (.cons a .nil)
        | cons c h2 => exact .nil
section
variable (P : Program) (w : World) (K : PySem.W.Frag) (mg : Str → Option Value) (base : Heap)
structure FnS (k : Nat) (x : Str) (ks : List Str) (sp : Sp) : Prop where
  run : ∃ f fd ps, mg x = some (.ref f) ∧ PySem.W.keepIn K (.ref f) = true ∧ FnOk P w K mg base CX0 k f fd ps sp ∧ KBinds K fd ps ks sw2 sw2
end
section
variable {P : Program} {w : World} {K : PySem.W.Frag} {mg : Str → Option Value} {base : Heap} {f : Addr} {fd : FuncData}
theorem ok_def {x : Str} {params : Arguments} {body : List Stmt} {scope : Scope} {N ps : List Str} {k : Nat} {sp : Sp}
    (F : FunD K x x params body scope [] [] f fd) (S : FnScope N ps scope) (len : ∀ vs H Q E, sp vs H Q E → vs.length = ps.length)
    (hbody : ∀ (cdv : Value) (A : Around) (outer : List Env) (s : Shared) (H : Hp) (vs : List V) (Q : VK) (E : XK), Room k (A.deeper (envOfC x scope s.heap.objs.size f cdv)) → sp vs H Q E →
      ∃ t, PSs (cxOf CX0 P w K mg base N x scope f cdv A outer s H E).nox body t ∧ t ⟨fun _ H' => Q .non H', Q, fun _ _ => False, fun _ _ => False⟩ (start N vs) H) : FnOk P w K mg base CX0 (k + 1) f fd ps sp :=
  F.ok S len fun cdv A outer s H vs Q E hr h => by
    obtain ⟨t, h1, h2⟩ := hbody cdv A outer s H vs Q E hr h
    exact ⟨t, h1.nox, h2⟩
theorem fn_none {x : Str} {params : Arguments} {body : List Stmt} {scope : Scope} (F : FunD K x x params body scope [] [] f fd) {k : Nat} (hm : mg x = some (.ref f)) : Fn P w K mg base k x (fun _ _ _ _ => False) :=
  ⟨f, hm, F.kp, fun _ _ _ _ _ _ _ _ _ _ _ h => h.elim⟩
theorem fn_of_ok {x : Str} {params : Arguments} {body : List Stmt} {scope : Scope} {ps : List Str} {k : Nat} {sp : Sp}
    (F : FunD K x x params body scope [] [] f fd) (hm : mg x = some (.ref f)) (G : FnOk P w K mg base CX0 k f fd ps sp)
    (hb : ∀ (kV doc pm : Value) (an : Option Addr) (cdv ct : Value) (us : List Value), us.length = ps.length → bindArgs (PySem.W.fnOf x x params body scope .none kV doc pm an cdv ct) ⟨us, []⟩ = pure (ps.zip us)) : Fn P w K mg base k x sp := by
  have b := F.bindsN hb
  have R := G.raw b .nil
  refine ⟨f, hm, F.kp, R.imp fun vs H Q E h => ?_⟩
  rw [List.append_nil]
  exact h
theorem fs_of_ok {x p1 p2 : Str} {params : Arguments} {body : List Stmt} {scope : Scope} {k : Nat} {sp : Sp}
    (F : FunD K x x params body scope [] [] f fd) (hm : mg x = some (.ref f)) (G : FnOk P w K mg base CX0 k f fd [p1, p2] sp)
    (hb : ∀ (kV doc pm : Value) (an : Option Addr) (cdv ct : Value) (a b : Value), bindArgs (PySem.W.fnOf x x params body scope .none kV doc pm an cdv ct) ⟨[], [(p2, a), (p1, b)]⟩ = pure [(p1, b), (p2, a)]) : FnS P w K mg base k x [p2, p1] sp := by
  refine ⟨f, fd, [p1, p2], hm, F.kp, G, ⟨fun s us ws hK hl => ?_, sw2_rel⟩⟩
  obtain ⟨oc, od, dV, kV, doc, pm, an, cdv, ct, osl, rfl, lk, hcd, hD, _⟩ := F.ex
  rcases hD with ⟨_, rfl⟩ | ⟨e, _⟩
  · match us, ws, hl with
    | [], [a, b], _ => exact .of_eq (hb kV doc pm an cdv ct a b)
    | [], [], h => cases h
    | [], [_], h => cases h
    | [], _ :: _ :: _ :: _, h => cases h
    | _ :: _, _, h => cases h
  · exact absurd rfl e
end
section
variable {X : Cx} {k : Nat} {sp : Sp} {x : Str} {p pos : Pos} {ks : List Str} {kws : List Keyword} {tk : TA}
def tRS (sp : Sp) (tk : TA) : TE := fun σ H Q => tk σ H fun zs H1 => ∃ a b, zs = [a, b] ∧ sp [b, a] H1 Q E0
theorem r_RS {σ : L2.St} {H : Hp} {Q : VK} (h : tk σ H fun zs H1 => ∃ a b, zs = [a, b] ∧ sp [b, a] H1 Q E0) : tRS sp tk σ H Q := h
theorem pe_fnS (F : FnS X.prog X.w X.K X.mg X.base k x ks sp) (hr : Room k X.A) (hkw : PK X kws tk) (hg : Gl X x := by rfl) (hdb : (x == ("__debug__" : Str)) = false := by decide)
    (hx : Passes CX0 X E0 := by exact pass0)
    (hall : (backToKw pos (keywordEach kws X.env)).all (·.1.isSome) = true := by rfl) (hks : (backToKw pos (keywordEach kws X.env)).filterMap (·.1) = ks := by rfl)
    (hpl : ((backTo pos (starEach [] X.env)).any (·.1) || (backToKw pos (keywordEach kws X.env)).any (·.1.isNone)) = false := by rfl) :
    PE X (.Call (.Name x p) [] kws pos) (tRS sp tk) := by
  obtain ⟨f, fd, ps, hm, hk, F, hb⟩ := F.run
  refine ⟨fun pins s σ H Q I h => ?_⟩
  refine wpAny_Call_Name_kw (ld_glob I hg hm ?_ hdb)
  refine PySem.W.callWith_KW0 (h₀ := X.base) I.ok.mod.kin hk hall ?_ hpl
  refine thn (hkw.run pos pins s σ H _ I h) fun ws s2 ⟨zs, H2, I2, rz, a, b, ez, q2⟩ => ⟨I2.kIn, ?_⟩
  rw [hks]
  subst ez
  exact run_fnk (us := []) (vs := []) (g := sw2) (gV := sw2) F hr hb hx I2 .nil rz q2
end

/-! stars, and what is a list or a tuple -/
section
variable {X : Cx} {k : Nat} {sp : Sp} {x : Str} {p sp_ pos : Pos} {e : Expr} {es : List Expr} {te : TE} {t : TA}
def tR1 (K : PySem.W.Frag) (sp : Sp) (te : TE) : TE := fun σ H Q => te σ H fun y H1 => ∃ a xs, y = V.ref a ∧ (SqT K H1 a xs ∨ SqL K H1 a xs) ∧ sp xs H1 Q E0
theorem r_R1 {K : PySem.W.Frag} {σ : L2.St} {H : Hp} {Q : VK} (h : te σ H fun y H1 => ∃ a xs, y = V.ref a ∧ (SqT K H1 a xs ∨ SqL K H1 a xs) ∧ sp xs H1 Q E0) : tR1 K sp te σ H Q := h
theorem r_star {K : PySem.W.Frag} {σ : L2.St} {H : Hp} {R : List V → Hp → Prop} (h : te σ H fun x H1 => ∃ p xs, x = V.ref p ∧ (SqT K H1 p xs ∨ SqL K H1 p xs) ∧ t σ H1 fun ys H2 => R (xs ++ ys) H2) : StX.tStar K te t σ H R := h
theorem pe_fnS1 (F : Fn X.prog X.w X.K X.mg X.base k x sp) (hr : Room k X.A) (he : PE X e te) (hg : Gl X x := by rfl) (hdb : (x == ("__debug__" : Str)) = false := by decide) (hx : Passes CX0 X E0 := by exact pass0)
    (hst : starEach [.Starred e sp_] X.env = [(true, eval e X.env)] := by rfl) : PE X (.Call (.Name x p) [.Starred e sp_] [] pos) (tR1 X.K sp te) := by
  obtain ⟨f, hm, hk, F⟩ := F.run
  exact StX.pe_callS1 F hr hk hg hm hx he hdb hst
theorem pe_fnS2 (F : Fn X.prog X.w X.K X.mg X.base k x sp) (hr : Room k X.A) (ha : PA X (e :: es) t) (hg : Gl X x := by rfl) (hdb : (x == ("__debug__" : Str)) = false := by decide) (hx : Passes CX0 X E0 := by exact pass0)
    (he : starEach (e :: es) X.env = (false, eval e X.env) :: starEach es X.env := by rfl) (hst : (backTo pos (starEach es X.env)).any (·.1) = true := by rfl) : PE X (.Call (.Name x p) (e :: es) [] pos) (tR sp t) := by
  obtain ⟨f, hm, hk, F⟩ := F.run
  exact StX.pe_callS2 F hr hk hg hm hx ha hdb he hst
def iSeq (K : PySem.W.Frag) (tl : TE) : TI := fun σ H R => iList K tl σ H R ∨ iTup K tl σ H R
theorem pi_seq {tg l : Expr} {tl : TE} (hl : PE X l tl) : PI X tg l (iSeq X.K tl) :=
  ⟨fun pins s σ H R I h => h.elim (fun h => (pi_list hl).run pins s σ H R I h) (fun h => (pi_tup hl).run pins s σ H R I h)⟩
end
section
variable {K : PySem.W.Frag} {nx : L2.St → Hp → Prop} {rt : VK} {bk ct : L2.St → Hp → Prop} {σ : L2.St} {H : Hp} {Q : VK} {g : TG} {tt : TT} {te : TE} {t : TS} {vs : List Nat}
/-- carried on: what is a list or a tuple at a -/
def Kp (K : PySem.W.Frag) (a : Addr) (xs : List V) (H H2 : Hp) : Prop := (SqL K H a xs → SqL K H2 a xs) ∧ (SqT K H a xs → SqT K H2 a xs)
theorem kp0 {a : Addr} {xs : List V} {H2 : Hp} (e : Ext [] H H2) : Kp K a xs H H2 := ⟨lst0 e, tup0 e⟩
theorem Kp.trans {a : Addr} {xs : List V} {H1 H2 : Hp} (h : Kp K a xs H H1) (g : Kp K a xs H1 H2) : Kp K a xs H H2 := ⟨fun z => g.1 (h.1 z), fun z => g.2 (h.2 z)⟩
abbrev SqQ (K : PySem.W.Frag) (H : Hp) (a : Addr) (xs : List V) : Prop := SqL K H a xs ∨ SqT K H a xs
theorem Kp.q {a : Addr} {xs : List V} {H2 : Hp} (h : Kp K a xs H H2) (z : SqQ K H a xs) : SqQ K H2 a xs := z.elim (fun z => .inl (h.1 z)) fun z => .inr (h.2 z)
theorem sqq0 {a : Addr} {xs : List V} {H2 : Hp} (e : Ext [] H H2) (h : SqQ K H a xs) : SqQ K H2 a xs := (kp0 e).q h
theorem r_lcQ {i : Nat} {a : Addr} {xs : List V} {Qd : Addr → Hp → Prop} {H0 : Hp} (h1 : σ[i]? = some (some (.ref a))) (h2 : SqQ K H0 a xs) (hk : Kp K a xs H0 H) (h : ∀ D, H D = none → ∃ Pv : Nat → Hp → Prop, Pv 0 (upd H D (.lst [])) ∧ (∀ j H2, Pv j H2 → Kp K a xs H0 H2) ∧
    (∀ j x H, xs[j]? = some x → Pv j H → g x (wipe σ vs) H fun σ2 H2 => wipe σ2 vs = wipe σ vs ∧ tt σ2 H2 fun b H3 =>
      if b = true then te σ2 H3 fun y H4 => ∃ acc, H4 D = some (.lst acc) ∧ acc.length < sizeLine ∧ Pv (j + 1) (upd H4 D (.lst (acc ++ [y]))) else Pv (j + 1) H3) ∧ ∀ H, Pv xs.length H → Qd D H) :
    iSeq K (tVar i) σ H fun J H1 => ∀ D, H1 D = none → ∃ W : Nat → Nat → Hp → Prop, (∃ m, W 0 m (upd H1 D (.lst []))) ∧ ∀ i m H, W i m H →
      (J.stop i H ∧ Qd D H) ∨ (J.go i H ∧ ∃ Nx : Hp → Prop, (∀ H', Nx H' → ∃ m', m' < m ∧ W (i + 1) m' H') ∧ ∀ x H', J.yld i H x H' → g x (wipe σ vs) H' fun σ2 H2 => wipe σ2 vs = wipe σ vs ∧ tt σ2 H2 fun b H3 =>
        if b = true then te σ2 H3 fun y H4 => ∃ acc, H4 D = some (.lst acc) ∧ acc.length < sizeLine ∧ Nx (upd H4 D (.lst (acc ++ [y]))) else Nx H3) := by
  rcases h2 with h2 | h2
  · refine Or.inl ⟨_, h1, a, rfl, ⟨xs, hk.1 h2⟩, fun D hD => ?_⟩
    obtain ⟨Pv, p0, pk, ps, pd⟩ := h D hD
    exact lc_list (Qd := Qd D) Pv p0 (fun j H2 _ p => (pk j H2 p).1 h2) ps pd
  · refine Or.inr ⟨_, h1, a, rfl, ⟨xs, hk.2 h2⟩, fun D hD => ?_⟩
    obtain ⟨Pv, p0, pk, ps, pd⟩ := h D hD
    exact lc_tup (Qd := Qd D) Pv p0 (fun j H2 _ p => (pk j H2 p).2 h2) ps pd
theorem r_forQ {i : Nat} {a : Addr} {xs : List V} {H0 : Hp} (h1 : σ[i]? = some (some (.ref a))) (h2 : SqQ K H0 a xs) (hk : Kp K a xs H0 H) (Pv : Nat → L2.St → Hp → Prop) (h0 : Pv 0 σ H) (hl : ∀ i σ H2, i ≤ xs.length → Pv i σ H2 → Kp K a xs H0 H2)
    (hs : ∀ i x σ H, xs[i]? = some x → Pv i σ H → g x σ H fun σ2 H2 => t ⟨Pv (i + 1), rt, nx, Pv (i + 1)⟩ σ2 H2) (hd : ∀ σ H, Pv xs.length σ H → nx σ H) : tFor (iSeq K (tVar i)) g t ⟨nx, rt, bk, ct⟩ σ H := by
  rcases h2 with h2 | h2
  · exact Or.inl ⟨_, h1, a, rfl, ⟨xs, hk.1 h2⟩, for_list (D := ⟨nx, rt, nx, nx⟩) Pv h0 (fun i σ H2 z p => (hl i σ H2 z p).1 h2) hs hd⟩
  · exact Or.inr ⟨_, h1, a, rfl, ⟨xs, hk.2 h2⟩, for_tup (D := ⟨nx, rt, nx, nx⟩) Pv h0 (fun i σ H2 z p => (hl i σ H2 z p).2 h2) hs hd⟩
end
/-! rows that go together -/
section
variable {α β : Type}
def Rel (R : V → α → Prop) (xs : List V) (rs : List α) : Prop := xs.length = rs.length ∧ ∀ (i : Nat) (v : V) (r : α), xs[i]? = some v → rs[i]? = some r → R v r
variable {R R' : V → α → Prop} {xs ys : List V} {rs ts : List α}
theorem Rel.nil : Rel R [] [] := ⟨rfl, fun i v q h => by simp at h⟩
theorem Rel.cons {v : V} {r : α} (h : R v r) (g : Rel R xs rs) : Rel R (v :: xs) (r :: rs) := by
  refine ⟨by simp [g.1], fun i w u a b => ?_⟩
  cases i with
  | zero =>
    simp at a b
    subst a b
    exact h
  | succ i =>
    simp at a b
    exact g.2 i w u a b
theorem Rel.imp (h : Rel R xs rs) (f : ∀ v r, R v r → R' v r) : Rel R' xs rs := ⟨h.1, fun i v r a b => f v r (h.2 i v r a b)⟩
theorem Rel.impM (h : Rel R xs rs) (f : ∀ v r, r ∈ rs → R v r → R' v r) : Rel R' xs rs := ⟨h.1, fun i v r a b => f v r (List.mem_of_getElem? b) (h.2 i v r a b)⟩
theorem Rel.at_ (h : Rel R xs rs) {i : Nat} {v : V} (hv : xs[i]? = some v) : ∃ r, rs[i]? = some r ∧ R v r := by
  have hi : i < rs.length := by rw [← h.1]; exact (List.getElem?_eq_some_iff.mp hv).1
  exact ⟨rs[i], List.getElem?_eq_getElem hi, h.2 i v _ hv (List.getElem?_eq_getElem hi)⟩
theorem Rel.app (h : Rel R xs rs) (g : Rel R ys ts) : Rel R (xs ++ ys) (rs ++ ts) := by
  refine ⟨by rw [List.length_append, List.length_append, h.1, g.1], fun j v q a b => ?_⟩
  by_cases hj : j < xs.length
  · rw [List.getElem?_append_left hj] at a
    rw [List.getElem?_append_left (by rw [← h.1]; exact hj)] at b
    exact h.2 j v q a b
  · rw [List.getElem?_append_right (by omega)] at a
    rw [List.getElem?_append_right (by rw [← h.1]; omega), ← h.1] at b
    exact g.2 _ v q a b
theorem Rel.hd {v : V} {r : α} (h : Rel R (v :: xs) (r :: rs)) : R v r := h.2 0 v r rfl rfl
theorem Rel.tl {v : V} {r : α} (h : Rel R (v :: xs) (r :: rs)) : Rel R xs rs := ⟨by simpa using h.1, fun i w u a b => h.2 (i + 1) w u (by simpa using a) (by simpa using b)⟩
theorem Rel.cases {v : V} (h : Rel R (v :: xs) rs) : ∃ r t, rs = r :: t ∧ R v r ∧ Rel R xs t := by
  cases rs with
  | nil => exact absurd h.1 (by simp)
  | cons r t => exact ⟨r, t, rfl, h.hd, h.tl⟩
theorem Rel.take (h : Rel R xs rs) (n : Nat) : Rel R (xs.take n) (rs.take n) := by
  refine ⟨by rw [List.length_take, List.length_take, h.1], fun j v q a b => ?_⟩
  rw [List.getElem?_take] at a b
  split at a
  · rename_i hj
    rw [if_pos hj] at b
    exact h.2 j v q a b
  · cases a
theorem Rel.drop (h : Rel R xs rs) (n : Nat) : Rel R (xs.drop n) (rs.drop n) := by
  refine ⟨by rw [List.length_drop, List.length_drop, h.1], fun j v q a b => ?_⟩
  rw [List.getElem?_drop] at a b
  exact h.2 _ v q a b
theorem Rel.perm (p : ys.Perm xs) : ∀ {rs : List α}, Rel R xs rs → ∃ ts, Rel R ys ts ∧ ts.Perm rs := by
  induction p with
  | nil => exact fun {rs} h => ⟨rs, h, List.Perm.refl _⟩
  | cons x _ ih =>
    intro rs h
    obtain ⟨r, t, rfl, a, b⟩ := h.cases
    obtain ⟨ts, c, d⟩ := ih b
    exact ⟨r :: ts, .cons a c, d.cons r⟩
  | swap x y l =>
    intro rs h
    obtain ⟨r1, t, rfl, a, b⟩ := h.cases
    obtain ⟨r2, t, rfl, c, d⟩ := b.cases
    exact ⟨r2 :: r1 :: t, .cons c (.cons a d), List.Perm.swap r1 r2 t⟩
  | trans _ _ ih1 ih2 =>
    intro rs h
    obtain ⟨ts, a, b⟩ := ih2 h
    obtain ⟨us, c, d⟩ := ih1 a
    exact ⟨us, c, d.trans b⟩
theorem Rel.snoc {v : V} {r : α} (h : Rel R xs rs) (g : R v r) : Rel R (xs ++ [v]) (rs ++ [r]) := h.app (.cons g .nil)
end
/-! steps -/
section
variable {K : PySem.W.Frag} {nx : L2.St → Hp → Prop} {rt : VK} {bk ct : L2.St → Hp → Prop} {σ : L2.St} {H : Hp} {Q : VK} {te : TE} {x y : V}
theorem r_app {l : Addr} {xs : List V} (h1 : H l = some (.lst xs)) (h2 : xs.length ≤ 4000) (h : Q .non (upd H l (.lst (xs ++ [y])))) : rAppend (.ref l) [y] H Q := ⟨l, xs, y, rfl, rfl, h1, Nat.lt_of_le_of_lt h2 (by decide), h⟩
theorem ty_lst {l : Addr} {xs : List V} (h : H l = some (.lst xs)) : tyV K "list" (.ref l) H := .inl ⟨rfl, xs, .inl (.inl h)⟩
theorem r_aug {i : Nat} {ti : TIp} (h1 : σ[i]? = some (some x)) (h : te σ H fun y H1 => ti x y H1 fun z H2 => nx (σ.set i (some z)) H2) : tAug i te ti ⟨nx, rt, bk, ct⟩ σ H := ⟨x, h1, h⟩
theorem r_ipI {f : Int → Int → Int} {i j : Int} {R : V → Hp → Prop} (h : R (.int (f i j)) H) : ipI f (.int i) (.int j) H R := ⟨i, j, rfl, rfl, h⟩
theorem cut_drop {xs : List V} {n : Nat} (h : n ≤ xs.length) : cutV xs (some (n : Int)) none = xs.drop n := by
  have e : HT.sIx xs.length 0 (some (n : Int)) = n := by rw [HT.sIx_nat]; exact Nat.min_eq_left h
  have e2 : HT.sIx xs.length xs.length none = xs.length := rfl
  unfold cutV
  rw [e, e2]
  exact List.take_of_length_le (by simp)
theorem cut_take {xs : List V} {n : Nat} (h : n ≤ xs.length) : cutV xs none (some (n : Int)) = xs.take n := by
  have e : HT.sIx xs.length xs.length (some (n : Int)) = n := by rw [HT.sIx_nat]; exact Nat.min_eq_left h
  have e2 : HT.sIx xs.length 0 none = 0 := rfl
  unfold cutV
  rw [e, e2]
  simp
end
section
theorem ixN_at {n j : Nat} {i : Int} (h : i = (j : Int)) (hj : j < n) : ixN n i = some j := by
  unfold ixN
  rw [if_pos (by omega), if_pos (by omega), h, Int.toNat_natCast]
theorem at0 {v : V} {xs : List V} : atI (v :: xs) 0 = some v := atI_nat (j := 0) rfl
theorem at1 {v w : V} {xs : List V} : atI (v :: w :: xs) 1 = some w := atI_nat (j := 1) rfl
theorem at_n {v : V} {xs : List V} {n : Nat} {i : Int} (hi : i = (n : Int)) (h : xs[n]? = some v) : atI xs i = some v := by rw [hi]; exact atI_nat h
end
theorem r_ndec {p : Prop} [Decidable p] {A B : Prop} (h1 : ¬ p → A) (h2 : p → B) : if (!decide p) = true then A else B := by
  by_cases hp : p
  · rw [decide_eq_true hp, if_neg (by decide)]; exact h2 hp
  · rw [decide_eq_false hp, if_pos (by decide)]; exact h1 hp
def rTs (K : PySem.W.Frag) : List V → Hp → VK → Prop := fun xs H Q => ∃ p ys, xs = [.ref p] ∧ ((SqL K H p ys ∧ ∀ l, H l = none → Q (.ref l) (upd H l (.tup ys))) ∨ (SqT K H p ys ∧ Q (.ref p) H))
theorem cr_tuple {X : Cx} : CallR X (.type "tuple") (rTs X.K) := call_tuple_of
theorem r_tupleL {K : PySem.W.Frag} {H : Hp} {Q : VK} {p : Addr} {ys : List V} (h : SqL K H p ys) (k : ∀ l, H l = none → Q (.ref l) (upd H l (.tup ys))) : rTs K [.ref p] H Q := ⟨p, ys, rfl, .inl ⟨h, k⟩⟩
end Yk

set_option maxHeartbeats 1000000
/-! Calls by place and by name, in any order; data that stands clear of some addresses. -/
namespace Yk
open PySem PySem.Spec PyProof.Rows L2
/-- the parameters' values: the i-th is the idx[i]-th of all that are passed -/
def arr {α : Type} (m n : Nat) (idx : List Nat) (us ws : List α) : List α := if us.length = m ∧ ws.length = n then idx.filterMap fun i => (us ++ ws)[i]? else []
theorem Vals.app {vs zs : List V} {us ws : List Value} (h : Vals vs us) (g : Vals zs ws) : Vals (vs ++ zs) (us ++ ws) := by
  induction h with
  | nil => exact g
  | cons a _ ih => exact .cons a ih
theorem Vals.get {vs : List V} {us : List Value} (h : Vals vs us) : ∀ i : Nat, (vs[i]? = none ∧ us[i]? = none) ∨ ∃ v u, vs[i]? = some v ∧ us[i]? = some u ∧ RelV v u := by
  induction h with
  | nil => intro i; exact .inl ⟨rfl, rfl⟩
  | cons a _ ih =>
    intro i
    cases i with
    | zero => exact .inr ⟨_, _, rfl, rfl, a⟩
    | succ i => exact ih i
theorem Vals.pick {vs : List V} {us : List Value} (h : Vals vs us) : ∀ idx : List Nat, Vals (idx.filterMap fun i => vs[i]?) (idx.filterMap fun i => us[i]?)
  | [] => .nil
  | i :: idx => by
    rcases Vals.get h i with ⟨a, b⟩ | ⟨v, u, a, b, r⟩
    · rw [List.filterMap_cons_none a, List.filterMap_cons_none b]
      exact Vals.pick h idx
    · rw [List.filterMap_cons_some a, List.filterMap_cons_some b]
      exact .cons r (Vals.pick h idx)
theorem arr_rel {m n : Nat} {idx : List Nat} {vs : List V} {us : List Value} {zs : List V} {ws : List Value} (h1 : Vals vs us) (h2 : Vals zs ws) : Vals (arr m n idx vs zs) (arr m n idx us ws) := by
  unfold arr
  rw [h1.length, h2.length]
  split
  · exact Vals.pick (Vals.app h1 h2) idx
  · exact .nil
section
variable (P : Program) (w : World) (K : PySem.W.Frag) (mg : Str → Option Value) (base : Heap)
structure FnX (k : Nat) (x : Str) (m : Nat) (ks : List Str) (idx : List Nat) (sp : Sp) : Prop where
  run : ∃ f fd ps, mg x = some (.ref f) ∧ PySem.W.keepIn K (.ref f) = true ∧ FnOk P w K mg base CX0 k f fd ps sp ∧ KBinds K fd ps ks (arr m ks.length idx) (arr m ks.length idx)
end
section
variable {P : Program} {w : World} {K : PySem.W.Frag} {mg : Str → Option Value} {base : Heap} {f : Addr} {fd : FuncData}
theorem fx_of_ok {x : Str} {params : Arguments} {body : List Stmt} {scope : Scope} {ps : List Str} {k : Nat} {sp : Sp} (m : Nat) (ks : List Str) (idx : List Nat)
    (F : FunD K x x params body scope [] [] f fd) (hm : mg x = some (.ref f)) (G : FnOk P w K mg base CX0 k f fd ps sp) (h0 : 0 < ps.length)
    (hb : ∀ (kV doc pm : Value) (an : Option Addr) (cdv ct : Value) (us ws : List Value), us.length = m → ws.length = ks.length → bindArgs (PySem.W.fnOf x x params body scope .none kV doc pm an cdv ct) ⟨us, ks.zip ws⟩ = pure (ps.zip (arr m ks.length idx us ws))) : FnX P w K mg base k x m ks idx sp := by
  refine ⟨f, fd, ps, hm, F.kp, G, ⟨fun s us ws hK hl => ?_, arr_rel⟩⟩
  obtain ⟨oc, od, dV, kV, doc, pm, an, cdv, ct, osl, rfl, lk, hcd, hD, _⟩ := F.ex
  rcases hD with ⟨_, rfl⟩ | ⟨e, _⟩
  · by_cases hc : us.length = m ∧ ws.length = ks.length
    · exact .of_eq (hb kV doc pm an cdv ct us ws hc.1 hc.2)
    · have e : arr m ks.length idx us ws = [] := if_neg hc
      rw [e] at hl
      exact absurd hl (by show (0 : Nat) ≠ ps.length; omega)
  · exact absurd rfl e
end
section
variable {X : Cx} {k m : Nat} {sp : Sp} {x : Str} {p pos : Pos} {ks : List Str} {idx : List Nat} {kws : List Keyword} {e : Expr} {es : List Expr} {t tk : TA}
def tRX (m n : Nat) (idx : List Nat) (sp : Sp) (t tk : TA) : TE := fun σ H Q => t σ H fun vs H1 => tk σ H1 fun zs H2 => ∃ us, us = arr m n idx vs zs ∧ sp us H2 Q E0
theorem r_RX {n : Nat} {σ : L2.St} {H : Hp} {Q : VK} (h : t σ H fun vs H1 => tk σ H1 fun zs H2 => ∃ us, us = arr m n idx vs zs ∧ sp us H2 Q E0) : tRX m n idx sp t tk σ H Q := h
theorem pe_fnX (F : FnX X.prog X.w X.K X.mg X.base k x m ks idx sp) (hr : Room k X.A) (ha : PA X (e :: es) t) (hkw : PK X kws tk) (hg : Gl X x := by rfl) (hdb : (x == ("__debug__" : Str)) = false := by decide)
    (hx : Passes CX0 X E0 := by exact pass0)
    (hall : (backToKw pos (keywordEach kws X.env)).all (·.1.isSome) = true := by rfl) (hks : (backToKw pos (keywordEach kws X.env)).filterMap (·.1) = ks := by rfl)
    (he : starEach (e :: es) X.env = (false, eval e X.env) :: starEach es X.env := by rfl)
    (hpl : ((backTo pos (starEach (e :: es) X.env)).any (·.1) || (backToKw pos (keywordEach kws X.env)).any (·.1.isNone)) = false := by rfl) :
    PE X (.Call (.Name x p) (e :: es) kws pos) (tRX m ks.length idx sp t tk) := by
  obtain ⟨f, fd, ps, hm, hk, F, hb⟩ := F.run
  refine ⟨fun pins s σ H Q I h => ?_⟩
  refine wpAny_Call_Name_kw (ld_glob I hg hm ?_ hdb)
  refine PySem.W.callWith_KW (h₀ := X.base) I.ok.mod.kin hk hall (thn (ha.run pos pins s σ H _ I h) fun us s1 ⟨vs, H1, I1, r, q⟩ => ?_) hpl he
  refine thn (hkw.run pos pins s1 σ H1 _ I1 q) fun ws s2 ⟨zs, H2, I2, rz, us', e, q2⟩ => ⟨I2.kIn, ?_⟩
  rw [hks]
  subst e
  exact run_fnk F hr hb hx I2 r rz q2
theorem pe_fnX0 (F : FnX X.prog X.w X.K X.mg X.base k x m ks idx sp) (hr : Room k X.A) (hkw : PK X kws tk) (hg : Gl X x := by rfl) (hdb : (x == ("__debug__" : Str)) = false := by decide)
    (hx : Passes CX0 X E0 := by exact pass0)
    (hall : (backToKw pos (keywordEach kws X.env)).all (·.1.isSome) = true := by rfl) (hks : (backToKw pos (keywordEach kws X.env)).filterMap (·.1) = ks := by rfl)
    (hpl : ((backTo pos (starEach [] X.env)).any (·.1) || (backToKw pos (keywordEach kws X.env)).any (·.1.isNone)) = false := by rfl) :
    PE X (.Call (.Name x p) [] kws pos) (tRX m ks.length idx sp tNil tk) := by
  obtain ⟨f, fd, ps, hm, hk, F, hb⟩ := F.run
  refine ⟨fun pins s σ H Q I h => ?_⟩
  refine wpAny_Call_Name_kw (ld_glob I hg hm ?_ hdb)
  refine PySem.W.callWith_KW0 (h₀ := X.base) I.ok.mod.kin hk hall ?_ hpl
  refine thn (hkw.run pos pins s σ H _ I h) fun ws s2 ⟨zs, H2, I2, rz, us, e, q2⟩ => ⟨I2.kIn, ?_⟩
  rw [hks]
  subst e
  exact run_fnk (us := []) (vs := []) F hr hb hx I2 .nil rz q2
end
/-! data clear of S -/
mutual
inductive Dq (K : PySem.W.Frag) (S : List Addr) (H : Hp) : V → PyData → Prop
  | non : Dq K S H .non .none
  | bl (b : Bool) : Dq K S H (.bl b) (.bool b)
  | int (i : Int) : Dq K S H (.int i) (.int i)
  | str (x : Str) : Dq K S H (.str x) (.str x)
  | lst {a : Addr} {xs : List V} {ds : List PyData} : a ∉ S → SqL K H a xs → DqAll K S H xs ds → Dq K S H (.ref a) (.list ds)
  | tup {a : Addr} {xs : List V} {ds : List PyData} : SqT K H a xs → DqAll K S H xs ds → Dq K S H (.ref a) (.tuple ds)
inductive DqAll (K : PySem.W.Frag) (S : List Addr) (H : Hp) : List V → List PyData → Prop
  | nil : DqAll K S H [] []
  | cons {v : V} {vs : List V} {d : PyData} {ds : List PyData} : Dq K S H v d → DqAll K S H vs ds → DqAll K S H (v :: vs) (d :: ds)
end
section
variable {K : PySem.W.Frag} {S T : List Addr} {H H1 : Hp}
mutual
theorem Dq.x (e : Ext T H H1) (hT : ∀ x ∈ T, x ∈ S) (hs : ∀ b ∈ T, ∃ l, H b = some (.lst l)) : ∀ {v : V} {d : PyData}, Dq K S H v d → Dq K S H1 v d
  | _, _, .non => .non
  | _, _, .bl b => .bl b
  | _, _, .int i => .int i
  | _, _, .str z => .str z
  | _, _, .lst na h g => .lst na (lstX e h fun q => na (hT _ q)) (DqAll.x e hT hs g)
  | _, _, .tup h g => .tup (tupX e h hs) (DqAll.x e hT hs g)
theorem DqAll.x (e : Ext T H H1) (hT : ∀ x ∈ T, x ∈ S) (hs : ∀ b ∈ T, ∃ l, H b = some (.lst l)) : ∀ {vs : List V} {ds : List PyData}, DqAll K S H vs ds → DqAll K S H1 vs ds
  | _, _, .nil => .nil
  | _, _, .cons h g => .cons (Dq.x e hT hs h) (DqAll.x e hT hs g)
end
mutual
theorem Dq.dp : ∀ {v : V} {d : PyData}, Dq K S H v d → Dp K H v d
  | _, _, .non => .non
  | _, _, .bl b => .bl b
  | _, _, .int i => .int i
  | _, _, .str z => .str z
  | _, _, .lst _ h g => .lst h (DqAll.dp g)
  | _, _, .tup h g => .tup h (DqAll.dp g)
theorem DqAll.dp : ∀ {vs : List V} {ds : List PyData}, DqAll K S H vs ds → DpAll K H vs ds
  | _, _, .nil => .nil
  | _, _, .cons h g => .cons (Dq.dp h) (DqAll.dp g)
end
theorem Dq.x0 (e : Ext [] H H1) {v : V} {d : PyData} (h : Dq K S H v d) : Dq K S H1 v d := h.x e (fun _ z => nomatch z) (fun _ z => nomatch z)
theorem DqAll.x0 (e : Ext [] H H1) {v : List V} {d : List PyData} (h : DqAll K S H v d) : DqAll K S H1 v d := h.x e (fun _ z => nomatch z) (fun _ z => nomatch z)
theorem DqAll.app : ∀ {vs ws : List V} {ds es : List PyData}, DqAll K S H vs ds → DqAll K S H ws es → DqAll K S H (vs ++ ws) (ds ++ es)
  | _, _, _, _, .nil, g => g
  | _, _, _, _, .cons h r, g => .cons h (DqAll.app r g)
theorem DqAll.get : ∀ {vs : List V} {ds : List PyData} {i : Nat} {v : V}, DqAll K S H vs ds → vs[i]? = some v → ∃ d, ds[i]? = some d ∧ Dq K S H v d
  | _, _, 0, _, .cons h _, e => by cases e; exact ⟨_, rfl, h⟩
  | _, _, i + 1, _, .cons _ r, e => DqAll.get (i := i) r e
  | _, _, 0, _, .nil, e => by cases e
  | _, _, _ + 1, _, .nil, e => by cases e
end
end Yk

/-! Rational numbers: what the program's reckoning in lowest terms is worth. -/
namespace Yk
/-- the sum in lowest terms, as the program reckons it -/
theorem add_low (a b : Rat) : (a + b).num = (a.num * ((b.den / Nat.gcd a.den b.den : Nat) : Int) + b.num * ((a.den / Nat.gcd a.den b.den : Nat) : Int)) / ((Nat.gcd (a.num * ((b.den / Nat.gcd a.den b.den : Nat) : Int) + b.num * ((a.den / Nat.gcd a.den b.den : Nat) : Int)).natAbs (Nat.gcd a.den b.den) : Nat) : Int)
    ∧ (a + b).den = a.den / Nat.gcd a.den b.den * (b.den / Nat.gcd (a.num * ((b.den / Nat.gcd a.den b.den : Nat) : Int) + b.num * ((a.den / Nat.gcd a.den b.den : Nat) : Int)).natAbs (Nat.gcd a.den b.den)) := by
  have e : a + b = Rat.add a b := rfl
  rw [e]
  unfold Rat.add
  dsimp only
  by_cases hg : Nat.gcd a.den b.den = 1
  · rw [dif_pos hg]
    simp [hg]
  · rw [dif_neg hg]
    have hmn : ∀ (num : Int) (den g : Nat) (h1 : (g : Int) ∣ num) (h2 : g ∣ den) (h3) (h4), (Rat.maybeNormalize num den g h1 h2 h3 h4).num = num / (g : Int) ∧ (Rat.maybeNormalize num den g h1 h2 h3 h4).den = den / g := by
      intro num den g h1 h2 h3 h4
      unfold Rat.maybeNormalize
      split
      · rename_i q
        subst q
        simp
      · exact ⟨by simp [Int.divExact], by simp [Nat.divExact]⟩
    obtain ⟨e1, e2⟩ := hmn _ _ _ _ _ _ _
    refine ⟨e1, ?_⟩
    rw [e2]
    have hd : Nat.gcd (a.num * ((b.den / Nat.gcd a.den b.den : Nat) : Int) + b.num * ((a.den / Nat.gcd a.den b.den : Nat) : Int)).natAbs (Nat.gcd a.den b.den) ∣ b.den := Nat.dvd_trans (Nat.gcd_dvd_right _ _) (Nat.gcd_dvd_right _ _)
    exact Nat.mul_div_assoc _ hd
theorem mul_low (a b : Rat) : (a * b).num = a.num / ((Nat.gcd a.num.natAbs b.den : Nat) : Int) * (b.num / ((Nat.gcd b.num.natAbs a.den : Nat) : Int)) ∧ (a * b).den = a.den / Nat.gcd b.num.natAbs a.den * (b.den / Nat.gcd a.num.natAbs b.den) := by
  have e : a * b = Rat.mul a b := rfl
  rw [e]
  unfold Rat.mul
  simp [Int.divExact, Nat.divExact]
/-- size: both numbers below 2 ^ n -/
def Sz (n : Nat) (q : Rat) : Prop := q.num.natAbs < 2 ^ n ∧ q.den < 2 ^ n
theorem Sz.mono {m n : Nat} {q : Rat} (h : Sz m q) (e : m ≤ n) : Sz n q := ⟨Nat.lt_of_lt_of_le h.1 (Nat.pow_le_pow_right (by decide) e), Nat.lt_of_lt_of_le h.2 (Nat.pow_le_pow_right (by decide) e)⟩
theorem sz_mk {n : Nat} {q : Rat} {a : Int} {b : Nat} (hb : 0 < b) (e : q = mkRat a b) (h1 : a.natAbs < 2 ^ n) (h2 : b < 2 ^ n) : Sz n q := by
  subst e
  constructor
  · rw [Rat.num_mkRat, if_neg (by omega)]
    have hd : ((Nat.gcd b a.natAbs : Nat) : Int) ∣ a := Int.natAbs_dvd_natAbs.mp (by simpa using Nat.gcd_dvd_right b a.natAbs)
    rw [Int.natAbs_ediv_of_dvd hd]
    refine Nat.lt_of_le_of_lt (Nat.div_le_self _ _) h1
  · rw [Rat.den_mkRat, if_neg (by omega)]
    exact Nat.lt_of_le_of_lt (Nat.div_le_self _ _) h2
theorem sz_add {m n : Nat} {a b : Rat} (ha : Sz m a) (hb : Sz n b) : Sz (m + n + 1) (a + b) := by
  have h1 : (a.num * (b.den : Int)).natAbs < 2 ^ (m + n) := by
    rw [Int.natAbs_mul, Nat.pow_add]
    exact Nat.mul_lt_mul'' ha.1 (by simpa using hb.2)
  have h2 : (b.num * (a.den : Int)).natAbs < 2 ^ (m + n) := by
    rw [Int.natAbs_mul, Nat.pow_add, Nat.mul_comm]
    exact Nat.mul_lt_mul'' (by simpa using ha.2) hb.1
  have h3 : 2 ^ (m + n + 1) = 2 ^ (m + n) + 2 ^ (m + n) := by rw [Nat.pow_succ]; omega
  refine sz_mk (a := a.num * b.den + b.num * a.den) (b := a.den * b.den) (Nat.mul_pos a.den_pos b.den_pos) ?_ ?_ ?_
  · rw [Rat.add_def, Rat.normalize_eq_mkRat]
  · have := Int.natAbs_add_le (a.num * (b.den : Int)) (b.num * (a.den : Int))
    omega
  · have h4 : a.den * b.den < 2 ^ m * 2 ^ n := Nat.mul_lt_mul'' ha.2 hb.2
    rw [← Nat.pow_add] at h4
    omega
theorem sz_mul {m n : Nat} {a b : Rat} (ha : Sz m a) (hb : Sz n b) : Sz (m + n) (a * b) := by
  refine sz_mk (a := a.num * b.num) (b := a.den * b.den) (Nat.mul_pos a.den_pos b.den_pos) ?_ ?_ ?_
  · rw [Rat.mul_def, Rat.normalize_eq_mkRat]
  · rw [Int.natAbs_mul, Nat.pow_add]
    exact Nat.mul_lt_mul'' ha.1 hb.1
  · rw [Nat.pow_add]
    exact Nat.mul_lt_mul'' ha.2 hb.2
theorem sz_neg {n : Nat} {a : Rat} (h : Sz n a) : Sz n (-a) := by
  refine ⟨?_, ?_⟩
  · rw [Rat.neg_num, Int.natAbs_neg]; exact h.1
  · exact h.2
theorem sz_inv {n : Nat} {a : Rat} (h : Sz n a) (h0 : 0 < a) : Sz n a⁻¹ := by
  have h1 : 0 < a.num := by
    have := (Rat.lt_iff 0 a).mp h0
    simpa using this
  refine ⟨?_, ?_⟩
  · rw [Rat.num_inv, Int.sign_eq_one_of_pos h1, Int.one_mul]
    simpa using h.2
  · rw [Rat.den_inv, if_neg (by omega)]
    exact h.1
theorem num_pos' {q : Rat} (h : 0 < q) : 0 < q.num := by
  have := (Rat.lt_iff 0 q).mp h
  simpa using this
theorem num_nn {q : Rat} (h : 0 ≤ q) : 0 ≤ q.num := Rat.num_nonneg.mpr h
theorem inv_parts {q : Rat} (h : 0 < q) : q⁻¹.num = (q.den : Int) ∧ (q⁻¹.den : Int) = q.num := by
  have h1 := num_pos' h
  refine ⟨?_, ?_⟩
  · rw [Rat.num_inv, Int.sign_eq_one_of_pos h1, Int.one_mul]
  · rw [Rat.den_inv, if_neg (by omega)]
    omega
/-- two numbers in lowest terms -/
theorem mk_parts (a b : Nat) (hb : 0 < b) : (mkRat (a : Int) b).num = ((a / Nat.gcd a b : Nat) : Int) ∧ (mkRat (a : Int) b).den = b / Nat.gcd a b := by
  rw [Rat.num_mkRat, Rat.den_mkRat, if_neg (by omega), if_neg (by omega)]
  simp [Nat.gcd_comm]
theorem mk_nn (a b : Nat) : 0 ≤ mkRat (a : Int) b := by
  rcases Nat.eq_zero_or_pos b with h | h
  · subst h; simp
  · have e := (mk_parts a b h).1
    have : 0 ≤ (mkRat (a : Int) b).num := by rw [e]; exact Int.natCast_nonneg _
    exact Rat.num_nonneg.mp this
end Yk
namespace Yk
theorem add_int (p q : Rat) : (p + q).num = (p.num * ((q.den : Int) / ((Nat.gcd p.den q.den : Nat) : Int)) + q.num * ((p.den : Int) / ((Nat.gcd p.den q.den : Nat) : Int))) / ((Nat.gcd (p.num * ((q.den : Int) / ((Nat.gcd p.den q.den : Nat) : Int)) + q.num * ((p.den : Int) / ((Nat.gcd p.den q.den : Nat) : Int))).natAbs (Nat.gcd p.den q.den) : Nat) : Int)
    ∧ ((p + q).den : Int) = (p.den : Int) / ((Nat.gcd p.den q.den : Nat) : Int) * ((q.den : Int) / ((Nat.gcd (p.num * ((q.den : Int) / ((Nat.gcd p.den q.den : Nat) : Int)) + q.num * ((p.den : Int) / ((Nat.gcd p.den q.den : Nat) : Int))).natAbs (Nat.gcd p.den q.den) : Nat) : Int)) := by
  obtain ⟨h1, h2⟩ := add_low p q
  constructor
  · rw [h1]
    simp only [Int.natCast_ediv]
  · rw [h2]
    simp only [Int.natCast_ediv, Int.natCast_mul]
theorem mul_int' (p q : Rat) : (p * q).num = p.num / ((Nat.gcd p.num.natAbs q.den : Nat) : Int) * (q.num / ((Nat.gcd q.num.natAbs p.den : Nat) : Int)) ∧ ((p * q).den : Int) = (p.den : Int) / ((Nat.gcd q.num.natAbs p.den : Nat) : Int) * ((q.den : Int) / ((Nat.gcd p.num.natAbs q.den : Nat) : Int)) := by
  obtain ⟨h1, h2⟩ := mul_low p q
  refine ⟨h1, ?_⟩
  rw [h2]
  simp only [Int.natCast_ediv, Int.natCast_mul]
theorem abs_div_le (a b : Int) (hb : 0 < b) : (a / b).natAbs ≤ a.natAbs := by
  have h1 := Int.natAbs_ediv_le_natAbs a b
  exact h1
end Yk
namespace Yk
def cmpQ' (p q : Rat) : Int := if p < q then -1 else if q < p then 1 else 0
theorem cmp_add (p q r : Rat) : cmpQ' (p + r) (q + r) = cmpQ' p q := by
  unfold cmpQ'
  have h1 : p + r < q + r ↔ p < q := Rat.add_lt_add_right
  have h2 : q + r < p + r ↔ q < p := Rat.add_lt_add_right
  simp only [h1, h2]
theorem cmp_more (p r : Rat) (hr : 0 ≤ r) : cmpQ' (p + r) p = if 0 < r then 1 else 0 := by
  unfold cmpQ'
  by_cases h : 0 < r
  · rw [if_neg (by grind), if_pos (by grind), if_pos h]
  · rw [if_neg (by grind), if_neg (by grind), if_neg h]
theorem cmp_mul (p q r : Rat) (hr : 0 ≤ r) : cmpQ' (p * r) (r * q) = if 0 < r then cmpQ' p q else 0 := by
  rw [Rat.mul_comm r q]
  unfold cmpQ'
  by_cases h : 0 < r
  · have h1 : p * r < q * r ↔ p < q := Rat.mul_lt_mul_right h
    have h2 : q * r < p * r ↔ q < p := Rat.mul_lt_mul_right h
    simp only [h1, h2, if_pos h]
  · have e : r = 0 := by grind
    subst e
    simp
theorem add_nn {a b : Rat} (h1 : 0 ≤ a) (h2 : 0 ≤ b) : 0 ≤ a + b := Rat.add_nonneg h1 h2
theorem mul_nn {a b : Rat} (h1 : 0 ≤ a) (h2 : 0 ≤ b) : 0 ≤ a * b := Rat.mul_nonneg h1 h2
theorem r_sub1 (p q : Rat) : p + q - q = p := by grind
theorem r_sub2 (p q r : Rat) : p + q + r - (r + q) = p := by grind
theorem r_sub3 (p : Rat) : p - p = 0 := by grind
theorem r_div1 {p q : Rat} (h : 0 < q) : p * q / q = p := by grind
theorem r_div2 {p q : Rat} (h : 0 < q) : p / q * q = p := by grind
theorem r_div3 {q : Rat} (h : 0 < q) : q / q = 1 := by grind
theorem r_dist (p q r : Rat) : p * q + p * r = p * (q + r) := by grind
theorem le1 {p q : Rat} (h : 0 ≤ p) : q ≤ p + q := by grind
theorem le2 {p q r : Rat} (h : 0 ≤ p) : r + q ≤ p + q + r := by grind
theorem num_pos_iff {r : Rat} (h : 0 ≤ r) : 0 < r.num ↔ 0 < r := by
  constructor
  · intro h1
    exact (Rat.lt_iff 0 r).mpr (by simpa using h1)
  · exact num_pos'
theorem sz_div {m n : Nat} {a b : Rat} (ha : Sz m a) (hb : Sz n b) (h : 0 < b) : Sz (m + n) (a / b) := by
  rw [Rat.div_def]
  exact sz_mul ha (sz_inv hb h)
end Yk

set_option maxHeartbeats 1000000
namespace Yk
open PySem PySem.Spec PyProof.Rows L2
def top (i : Nat) : Stmt := PySem.Challenge.pw_bandheld_k31_wires_buffers_hops_told.main.body.getD i (.Pass ⟨0, 0, 0, 0⟩)
structure Bt (mg : Str → Option Value) : Prop where
  int : mg "int" = none
  len : mg "len" = none
  list : mg "list" = none
  tuple : mg "tuple" = none
  str : mg "str" = none
  bool : mg "bool" = none
  max : mg "max" = none
  min : mg "min" = none
  all : mg "all" = none
  any : mg "any" = none
  sum : mg "sum" = none
  isinstance : mg "isinstance" = none
  zip : mg "zip" = none
  range : mg "range" = none
  divmod : mg "divmod" = none
structure Bg (mg : Str → Option Value) : Prop extends Bt mg where
  gcd : mg "gcd" = some (.builtin "math.gcd")
/-- an amount: its two numbers in a tuple -/
def Am (K : PySem.W.Frag) (H : Hp) (v : V) (q : Rat) : Prop := ∃ a, v = .ref a ∧ SqT K H a [.int q.num, .int (q.den : Int)]
theorem Am.x {S : List Addr} {K : PySem.W.Frag} {H H1 : Hp} {v : V} {q : Rat} (e : Ext S H H1) (h : Am K H v q) (hs : ∀ b ∈ S, ∃ l, H b = some (.lst l)) : Am K H1 v q := by
  obtain ⟨a, rfl, h⟩ := h
  exact ⟨a, rfl, tupX e h hs⟩
theorem Am.x0 {K : PySem.W.Frag} {H H1 : Hp} {v : V} {q : Rat} (e : Ext [] H H1) (h : Am K H v q) : Am K H1 v q := h.x e fun _ z => nomatch z
/-- what an amount's promise hands back -/
def RetAm (K : PySem.W.Frag) (H : Hp) (Q : VK) (q : Rat) : Prop := ∀ v H', Ext [] H H' → Am K H' v q → Q v H'
def spAdded (K : PySem.W.Frag) : Sp := fun vs H Q _ => ∃ v1 v2 p q, vs = [v1, v2] ∧ Am K H v1 p ∧ Am K H v2 q ∧ Sz 4000 p ∧ Sz 4000 q ∧ RetAm K H Q (p + q)
end Yk
namespace Yk
open PySem PySem.Spec PyProof.Rows L2
theorem cdiv {n : Nat} {i : Int} {b : Nat} (h0 : 0 < b) (hb : b < 2 ^ n) (hn : 0 < n) (h9 : n ≤ 9000) : CDivW i (b : Int) := wide_div (by omega) (by simpa using hb) hn h9
theorem cmul {m n : Nat} {i j : Int} (hi : i.natAbs < 2 ^ m) (hj : j.natAbs < 2 ^ n) (h0 : 0 < m) (h1 : 0 < n) (h : m + n ≤ 1000000) : CMulW i j := wide_mul hi hj h0 h1 h
theorem dlt {n : Nat} {a b : Int} (h : a.natAbs < 2 ^ n) : (a / b).natAbs < 2 ^ n := Nat.lt_of_le_of_lt (Int.natAbs_ediv_le_natAbs a b) h
end Yk
namespace Yk
open PySem PySem.Spec PyProof.Rows L2
/-- a row of amounts -/
def Ams (K : PySem.W.Frag) (H : Hp) (vs : List V) (qs : List Rat) : Prop := vs.length = qs.length ∧ ∀ (i : Nat) (v : V) (q : Rat), vs[i]? = some v → qs[i]? = some q → Am K H v q
theorem Ams.x {S : List Addr} {K : PySem.W.Frag} {H H1 : Hp} {vs : List V} {qs : List Rat} (e : Ext S H H1) (h : Ams K H vs qs) (hs : ∀ b ∈ S, ∃ l, H b = some (.lst l)) : Ams K H1 vs qs := ⟨h.1, fun i v q a b => (h.2 i v q a b).x e hs⟩
theorem Ams.x0 {K : PySem.W.Frag} {H H1 : Hp} {vs : List V} {qs : List Rat} (e : Ext [] H H1) (h : Ams K H vs qs) : Ams K H1 vs qs := h.x e fun _ z => nomatch z
theorem Ams.at_ {K : PySem.W.Frag} {H : Hp} {vs : List V} {qs : List Rat} (h : Ams K H vs qs) {i : Nat} {v : V} (hv : vs[i]? = some v) : ∃ q, qs[i]? = some q ∧ Am K H v q := by
  have hi : i < qs.length := by rw [← h.1]; exact (List.getElem?_eq_some_iff.mp hv).1
  exact ⟨qs[i], List.getElem?_eq_getElem hi, h.2 i v _ hv (List.getElem?_eq_getElem hi)⟩
theorem Ams.nil {K : PySem.W.Frag} {H : Hp} : Ams K H [] [] := ⟨rfl, fun i v q h => by simp at h⟩
theorem Ams.cons {K : PySem.W.Frag} {H : Hp} {v : V} {q : Rat} {vs : List V} {qs : List Rat} (h : Am K H v q) (r : Ams K H vs qs) : Ams K H (v :: vs) (q :: qs) := by
  refine ⟨by simp [r.1], fun i w u a b => ?_⟩
  cases i with
  | zero =>
    simp at a b
    subst a b
    exact h
  | succ i =>
    simp at a b
    exact r.2 i w u a b
/-- the smallest, the largest of a row -/
def minQ (p : Rat) (qs : List Rat) : Rat := qs.foldl (fun m q => if q < m then q else m) p
def maxQ (p : Rat) (qs : List Rat) : Rat := qs.foldl (fun m q => if m < q then q else m) p
theorem fold_take {α : Type} {f : α → Rat → α} {z : α} {qs : List Rat} {i : Nat} {q : Rat} (h : qs[i]? = some q) : (qs.take (i + 1)).foldl f z = f ((qs.take i).foldl f z) q := by
  obtain ⟨hl, e⟩ := List.getElem?_eq_some_iff.mp h
  rw [← List.take_append_getElem hl, List.foldl_append, e]
  rfl
theorem minQ_mem {m : Nat} {p : Rat} : ∀ {qs : List Rat}, Sz m p → (∀ q ∈ qs, Sz m q) → Sz m (minQ p qs)
  | [], h, _ => h
  | q :: r, h, hq => by
    show Sz m (minQ (if q < p then q else p) r)
    refine minQ_mem ?_ fun x hx => hq x (List.mem_cons_of_mem _ hx)
    split
    · exact hq q List.mem_cons_self
    · exact h
theorem maxQ_mem {m : Nat} {p : Rat} : ∀ {qs : List Rat}, Sz m p → (∀ q ∈ qs, Sz m q) → Sz m (maxQ p qs)
  | [], h, _ => h
  | q :: r, h, hq => by
    show Sz m (maxQ (if p < q then q else p) r)
    refine maxQ_mem ?_ fun x hx => hq x (List.mem_cons_of_mem _ hx)
    split
    · exact hq q List.mem_cons_self
    · exact h
end Yk
namespace Yk
open PySem PySem.Spec PyProof.Rows L2
/-- what five numbers the bag may hold -/
def Bag5 (ns : List Int) (it : Addr) (l : List V) : Prop := ∃ (pos : Nat) (rest seed cnt : Int), l = [.ref it, .int (pos : Int), .int rest, .int seed, .int cnt] ∧ pos ≤ ns.length ∧ 0 ≤ rest ∧ 0 ≤ seed ∧ seed < 2147483629
structure Bag where
  a : Addr
  it : Addr
  ns : List Int
structure BagAt (K : PySem.W.Frag) (H : Hp) (b : Bag) : Prop where
  ex : ∃ l : List V, H b.a = some (.lst l) ∧ SqL K H b.it (b.ns.map V.int) ∧ b.ns.length ≤ 63 ∧ Bag5 b.ns b.it l
theorem BagAt.lst {K : PySem.W.Frag} {H : Hp} {b : Bag} (h : BagAt K H b) : ∃ l, H b.a = some (.lst l) := by
  obtain ⟨l, h1, _⟩ := h.ex
  exact ⟨l, h1⟩
theorem BagAt.x0 {K : PySem.W.Frag} {H H1 : Hp} {b : Bag} (h : BagAt K H b) (e : Ext [] H H1) : BagAt K H1 b := by
  obtain ⟨l, h1, h2, h3, h4⟩ := h.ex
  exact ⟨l, e _ _ h1 (fun z => nomatch z), lst0 e h2, h3, h4⟩
theorem BagAt.new {K : PySem.W.Frag} {H : Hp} {b : Bag} {p : Addr} {o : HO} (h : BagAt K H b) (hp : H p = none) : BagAt K (upd H p o) b := h.x0 (Ext.refl.new hp)
theorem BagAt.ne {K : PySem.W.Frag} {H : Hp} {b : Bag} {p : Addr} (h : BagAt K H b) (hp : H p = none) : b.a ≠ p := by
  obtain ⟨l, q⟩ := h.lst
  exact ne_of_none q hp
theorem BagAt.ne' {K : PySem.W.Frag} {H : Hp} {b : Bag} {p : Addr} (hp : H p = none) (h : BagAt K H b) : b.a ≠ p := h.ne hp
/-- what was new to a heap with the bag may change later -/
theorem BagAt.own {K : PySem.W.Frag} {H0 H : Hp} {b : Bag} {p : Addr} {o : HO} (h0 : BagAt K H0 b) (hp : H0 p = none) (h : BagAt K H b) : BagAt K (upd H p o) b := by
  obtain ⟨l0, a0, a1, _, _⟩ := h0.ex
  obtain ⟨l, h1, h2, h3, h4⟩ := h.ex
  refine ⟨l, by rw [upd_ne (ne_of_none a0 hp)]; exact h1, ?_, h3, h4⟩
  rcases a1 with a1 | a1
  · have hne : b.it ≠ p := by
      rcases a1 with a1 | ⟨u, a1⟩
      · exact ne_of_none a1 hp
      · exact ne_of_none a1 hp
    rcases h2 with (h2 | ⟨u, h2⟩) | h2
    · exact .inl (.inl (by rw [upd_ne hne]; exact h2))
    · exact .inl (.inr ⟨u, by rw [upd_ne hne]; exact h2⟩)
    · exact .inr h2
  · exact .inr a1
theorem tupB {K : PySem.W.Frag} {H H1 : Hp} {a : Addr} {b : Bag} {xs : List V} (hb : BagAt K H b) (e : Ext [b.a] H H1) (h : SqT K H a xs) : SqT K H1 a xs := tupX e h fun c hc => by rw [List.mem_singleton.mp hc]; exact hb.lst
theorem Am.b {K : PySem.W.Frag} {H H1 : Hp} {b : Bag} {v : V} {q : Rat} (hb : BagAt K H b) (e : Ext [b.a] H H1) (h : Am K H v q) : Am K H1 v q := h.x e fun c hc => by rw [List.mem_singleton.mp hc]; exact hb.lst
theorem Am.b' {K : PySem.W.Frag} {H H1 : Hp} {b : Bag} {v : V} {q : Rat} (e : Ext [b.a] H H1) (hb : BagAt K H b) (h : Am K H v q) : Am K H1 v q := h.b hb e
theorem Ams.b {K : PySem.W.Frag} {H H1 : Hp} {b : Bag} {v : List V} {q : List Rat} (hb : BagAt K H b) (e : Ext [b.a] H H1) (h : Ams K H v q) : Ams K H1 v q := h.x e fun c hc => by rw [List.mem_singleton.mp hc]; exact hb.lst
theorem Am.n {K : PySem.W.Frag} {H : Hp} {p : Addr} {o : HO} {v : V} {q : Rat} (h : Am K H v q) (hp : H p = none) : Am K (upd H p o) v q := h.x0 (Ext.refl.new hp)
theorem am_lit {K : PySem.W.Frag} {H : Hp} {a : Addr} {n : Int} {d : Nat} (hd : d ≠ 0) (hc : n.natAbs.Coprime d) (h : SqT K H a [.int n, .int (d : Int)]) : Am K H (.ref a) ⟨n, d, hd, hc⟩ := ⟨a, rfl, h⟩
end Yk

open PySem PySem.Spec PyProof.Rows L2 Yk
local macro_rules | `(tactic| walk_at "sq") => `(tactic| first
  | assumption
  | exact tupS
  | exact lstS
  | ((refine' tupN ?h1 (by assumption)); (case h1 => walk_at "sq"))
  | ((refine' lstN ?h1 (by assumption)); (case h1 => walk_at "sq"))
  | ((refine' tup0 (by assumption) ?h1); (case h1 => walk_at "sq"))
  | ((refine' lst0 (by assumption) ?h1); (case h1 => walk_at "sq")))
local macro_rules | `(tactic| walk_at "side") => `(tactic| first | assumption | decide | omega | exact Or.inr ⟨by decide, by decide⟩ | exact ⟨by decide, by decide, by decide⟩ | exact ⟨by decide, by decide +kernel⟩)
local macro_rules | `(tactic| walk_at "ty") => `(tactic| first
  | exact TyX.base TyOf.non
  | exact TyX.base (TyOf.bl _)
  | exact TyX.base (TyOf.int _)
  | exact TyX.base (TyOf.str _)
  | ((refine' tyT ?h1); (case h1 => walk_at "sq"))
  | ((refine' tyL ?h1); (case h1 => walk_at "sq")))
local macro_rules | `(tactic| walk_at "st") => `(tactic| first
  | with_reducible refine' r_seq ?_
  | with_reducible refine' r_asg ?_
  | with_reducible refine' r_ret ?_
  | with_reducible refine' r_drop ?_
  | with_reducible refine' r_ifS ?_
  | with_reducible refine' r_par ?_
  | with_reducible refine' r_name ?_
  | with_reducible refine' r_gCons ?_
  | with_reducible refine' r_gNil ?_
  | with_reducible refine' r_gSub ?_
  | ((with_reducible refine' r_gTup ?h1 ?h2 ?h3); (case h1 => walk_at "sq"); (case h2 => rfl))
  | with_reducible refine' r_op ?_
  | with_reducible refine' r_un ?_
  | with_reducible refine' r_c ?_
  | ((with_reducible refine' r_var ?h1 ?h2); (case h1 => rfl))
  | with_reducible refine' r_I0 ?_
  | with_reducible refine' r_U ?_
  | ((with_reducible refine' r_I ?h1 ?h2); (case h1 => walk_at "side"))
  | ((with_reducible refine' r_ixT ?h1 ?h2 ?h3); (case h1 => walk_at "sq"); (case h2 => rfl))
  | ((with_reducible refine' r_ixL ?h1 ?h2 ?h3); (case h1 => walk_at "sq"); (case h2 => rfl))
  | with_reducible refine' r_cons ?_
  | with_reducible refine' r_nil ?_
  | with_reducible refine' r_tup ?_
  | with_reducible refine' r_lst ?_
  | with_reducible refine' r_CB ?_
  | with_reducible refine' r_R ?_
  | with_reducible refine' r_R1 ?_
  | with_reducible refine' r_star ?_
  | with_reducible refine' r_RS ?_
  | with_reducible refine' r_RX ?_
  | with_reducible refine' r_gcd ?_
  | ((with_reducible refine' r_aug ?h1 ?h2); (case h1 => rfl))
  | with_reducible refine' r_ipI ?_
  | ((with_reducible refine' r_app ?h1 ?h2 ?h3); (case h1 => assumption); (case h2 => first | assumption | omega))
  | with_reducible refine' r_test ?_
  | with_reducible refine' r_B ?_
  | with_reducible refine' r_bl ?_
  | with_reducible refine' r_if ?_
  | with_reducible refine' r_and ?_
  | with_reducible refine' r_or ?_
  | with_reducible refine' r_not ?_
  | with_reducible refine' r_next ?_
  | with_reducible refine' r_int ?_
  | with_reducible refine' r_exI ?_
  | with_reducible refine' r_andV ?_
  | with_reducible refine' r_orV ?_
  | with_reducible refine' r_notV ?_
  | ((with_reducible refine' r_isi ?h1 ?h2 ?h3); (case h1 => walk_at "ty"); (case h2 => rfl))
  | ((with_reducible refine' r_isiT ?h1 ?h2 ?h3 ?h4); (case h1 => exact upd_same); (case h2 => walk_at "ty"); (case h3 => rfl))
  | with_reducible refine' And.intro (rfl : V.non = V.non) ?_
  | with_reducible refine' r_BM ?_
  | with_reducible refine' r_BM0 ?_
  | with_reducible refine' r_lc ?_
  | with_reducible refine' r_yes ?_
  | with_reducible refine' r_tt ?_
  | with_reducible refine' r_iRng1 ?_
  | with_reducible refine' r_iList ?_
  | with_reducible refine' r_iTup ?_
  | with_reducible refine' r_iZip ?_
  | ((with_reducible refine' r_gUnl ?h1 ?h2 ?h3); (case h1 => walk_at "sq"); (case h2 => rfl))
  | with_reducible refine' r_slL ?_
  | with_reducible refine' r_noP ?_
  | with_reducible refine' r_part ?_
  | ((with_reducible refine' r_len ?h1 ?h2); (case h1 => (first | (refine Or.inl ?_; walk_at "sq") | (refine Or.inr ?_; walk_at "sq"))))
  | ((with_reducible refine' r_eq ?h1 ?h2); (case h1 => rfl))
  | ((with_reducible refine' r_ne ?h1 ?h2); (case h1 => rfl))
  | ((with_reducible refine' And.intro ?h1 ?h2); (case h1 => (simp only [List.length_cons, List.length_nil, List.length_map]; decide)); (intro np hnp))
  | ((with_reducible refine' Exists.intro _ (Exists.intro _ (And.intro ?h1 ?h2))); (case h1 => (show ([_, _] : List V) = [_, _]; rfl)))
  | ((with_reducible refine' Exists.intro _ (And.intro ?h1 ?h2)); (case h1 => (first | (show ([_] : List V) = arr _ _ _ _ _; rfl) | (show ([_, _] : List V) = arr _ _ _ _ _; rfl) | (show ([_, _, _] : List V) = arr _ _ _ _ _; rfl)))))
local macro_rules | `(tactic| walk_at "go") => `(tactic| repeat walk_at "st")
local macro_rules | `(tactic| walk_at "bag") => `(tactic| first
  | assumption
  | (refine BagAt.new ?_ (by assumption); walk_at "bag")
  | (refine BagAt.x0 ?_ (by assumption); walk_at "bag"))
local macro_rules | `(tactic| walk_at "ext") => `(tactic| first
  | assumption
  | exact Ext.refl
  | (refine Ext.new ?_ (by assumption); walk_at "ext")
  | (refine Ext.trans ?_ (by assumption); walk_at "ext"))
local macro_rules | `(tactic| walk_at "ams") => `(tactic| first
  | exact Ams.nil
  | (refine Ams.cons ?_ ?_; (first | assumption | (refine am_lit _ _ ?_; walk_at "sq")); walk_at "ams"))
local macro_rules | `(tactic| walk_at "br") => `(tactic| first
  | ((with_reducible refine' r_true ?h1 ?h2); (case h1 => rfl))
  | ((with_reducible refine' r_false ?h1 ?h2); (case h1 => rfl)))
local macro_rules | `(tactic| walk_at "run") => `(tactic| repeat (first | walk_at "st" | walk_at "br"))
local macro_rules | `(tactic| walk_at "am") => `(tactic| first
  | assumption
  | (refine Am.x0 (by assumption) ?_; walk_at "am")
  | (refine Am.n ?_ (by assumption); walk_at "am")
  | (refine Am.b' (by assumption) (by assumption) ?_; walk_at "am"))
set_option maxHeartbeats 1000000
/-! A head whose part of the heap is told by a written list of addresses; its run's looks in pieces. -/
namespace Hk
open PySem PySem.Spec PyProof.Rows L2 He
/-- a def that stands at a path of the part -/
structure DefP where
  path : PySem.W.Frag → Addr
  name : Str
  qual : Str
  params : Arguments
  body : List Stmt
  scope : Scope
  dfl : List Dv := []
  kwd : List (Str × Dv) := []
def DefP.val (d : DefP) : FnW := some (d.name, d.qual, d.params, .stmts d.body, d.scope, mainGlobals, [], builtinsNs)
def DefP.dvs (K : PySem.W.Frag) (d : DefP) : List V := d.dfl.map (Dv.v K)
def DefP.kws (K : PySem.W.Frag) (d : DefP) : List (Str × V) := d.kwd.map fun q => (q.1, q.2.v K)
def seen (K : PySem.W.Frag) (a : Addr) : FnW := match K.lookup a with
  | some o => (match o.data with
    | .func u => some (u.name, u.qualname, u.params, u.body, u.scope, u.globals, u.closure, u.builtins)
    | _ => none)
  | none => none
def good (K : PySem.W.Frag) (d : DefP) (a : Addr) : Bool := PySem.W.keepIn K (.ref a) && match K.lookup a with
  | some o => (match o.data with
    | .func u => PySem.W.codeIn K u.code d.qual && (dflB K u.defaults (d.dvs K) && kwdB K u.kwdefaults (d.kws K))
    | _ => false)
  | none => false
theorem funD_of {K : PySem.W.Frag} {d : DefP} (e : seen K (d.path K) = d.val) (c : good K d (d.path K) = true) : ∃ fd, FunD K d.name d.qual d.params d.body d.scope (d.dvs K) (d.kws K) (d.path K) fd := by
  obtain ⟨kp, c2⟩ := Bool.and_eq_true_iff.mp c
  unfold seen at e
  generalize ha : d.path K = a at *
  cases q : K.lookup a with
  | none => simp only [q] at c2; cases c2
  | some o =>
    simp only [q] at c2 e
    obtain ⟨oc, od, dt, osl⟩ := o
    cases dt with
    | func fd =>
      dsimp only at c2 e
      obtain ⟨k1, k2⟩ := Bool.and_eq_true_iff.mp c2
      obtain ⟨k3, k4⟩ := Bool.and_eq_true_iff.mp k2
      obtain ⟨m1, m2, m3, m4, m5, m6, m7, m8, m9, m10, m11, m12, m13, m14, m15⟩ := fd
      unfold DefP.val at e
      dsimp only at e k1 k3 k4
      injection e with e
      injection e with e1 e; injection e with e2 e; injection e with e3 e; injection e with e4 e; injection e with e5 e; injection e with e6 e; injection e with e7 e8
      subst e1 e2 e3 e4 e5 e6 e7 e8
      exact ⟨_, ⟨oc, od, m8, m9, m10, m11, m12, m13, m14, osl, rfl, q, k1, dflB_ok k3, kwdB_ok k4⟩, kp⟩
    | _ => dsimp only at c2; cases c2
abbrev Al : Type := Bool × List FnW
def look (as : List Addr) (fa : List Fa) (fn : List DefP) (ex : PySem.W.Frag → Bool) (K : PySem.W.Frag) : Al := ((fa.all fun f => f.ok K) && ((fn.all fun d => good K d (d.path K)) && ex K), fn.map fun d => seen K (d.path K))
def due (fn : List DefP) : Al := (true, fn.map DefP.val)
structure Says (fa : List Fa) (fn : List DefP) (ex : PySem.W.Frag → Bool) (K : PySem.W.Frag) : Prop where
  fact : ∀ (i : Nat) (f : Fa), fa[i]? = some f → f.ok K = true
  def_ : ∀ (i : Nat) (d : DefP), fn[i]? = some d → ∃ fd, FunD K d.name d.qual d.params d.body d.scope (d.dvs K) (d.kws K) (d.path K) fd
  more : ex K = true
theorem says_of {as : List Addr} {fa : List Fa} {fn : List DefP} {ex : PySem.W.Frag → Bool} {K : PySem.W.Frag} (e : look as fa fn ex K = due fn) : Says fa fn ex K := by
  have e1 : ((fa.all fun f => f.ok K) && ((fn.all fun d => good K d (d.path K)) && ex K)) = true := congrArg (·.1) e
  have e2 : (fn.map fun d => seen K (d.path K)) = fn.map DefP.val := congrArg (·.2) e
  obtain ⟨h1, h⟩ := Bool.and_eq_true_iff.mp e1
  obtain ⟨h2, h3⟩ := Bool.and_eq_true_iff.mp h
  refine ⟨fun i f hf => List.all_eq_true.mp h1 f (List.mem_of_getElem? hf), fun i d hd => funD_of ?_ (List.all_eq_true.mp h2 d (List.mem_of_getElem? hd)), h3⟩
  have e3 := congrArg (fun l : List FnW => l[i]?) e2
  rw [List.getElem?_map, List.getElem?_map, hd] at e3
  exact Option.some.inj e3
/-- by the written addresses -/
def obG (as : List Addr) (fa : List Fa) (fn : List DefP) (ex : PySem.W.Frag → Bool) (g : Addr → Option Obj) : Al := look as fa fn ex (frG g as)
def hook (as : List Addr) (fa : List Fa) (fn : List DefP) (ex : PySem.W.Frag → Bool) : PySem.W.Hook where
  α := Al
  obs := fun s => obG as fa fn ex s.heap.get?
  val := fun _ => due fn
  says := fun _ h => ∃ K : PySem.W.Frag, K.In h ∧ Says fa fn ex K
  of := fun _ _ e => ⟨_, frG_in, says_of e⟩
  keeps := fun _ _ _ ⟨K, hK, c⟩ k => ⟨K, PySem.W.Frag.In.keeps hK k, c⟩
theorem obG_eq {as : List Addr} {fa : List Fa} {fn : List DefP} {ex : PySem.W.Frag → Bool} {g : Addr → Option Obj} {s : Shared} (h : ∀ a, g a = s.heap.get? a) : obG as fa fn ex g = (hook as fa fn ex).obs s := by
  have e : g = s.heap.get? := funext h
  rw [e]
  rfl
end Hk
namespace Hk
open PySem PySem.W PySem.Spec PyProof.Rows L2 He HandSHeadRun
/-- the def behind a property -/
def getter (K : PySem.W.Frag) (p : Addr) : Addr := match PySem.W.recIn K p "property" with
  | some (.ref g :: _) => g
  | _ => 0
noncomputable abbrev whole (r : OpenRow) (M : Nat) (w : World) := wholeF (fun p => stepQ (denQ tabQ) p w) fenceQ M r.prog
/-- one look at the run's end -/
def At {α : Type} (r : OpenRow) (M : Nat) (w : World) (f : Shared × SharedT → α) (v : α) : Prop := (whole r M w).map f = some v
theorem At.and {r : OpenRow} {M : Nat} {w : World} {f g : Shared × SharedT → Bool} (a : At r M w f true) (b : At r M w g true) : At r M w (fun x => f x && g x) true := by
  obtain ⟨x, hx, ex⟩ := Option.map_eq_some_iff.mp a
  obtain ⟨y, hy, ey⟩ := Option.map_eq_some_iff.mp b
  rw [hx] at hy
  cases hy
  exact Option.map_eq_some_iff.mpr ⟨x, hx, by rw [ex, ey]; rfl⟩
theorem join {r : OpenRow} {q : Program} {M : Nat} {loose : List Str} {w : World} {as : List Addr} {fa : List Fa} {fn : List DefP} {ex : Frag → Bool}
    (a : At r M w (fun x => obG as fa fn ex (getT x.2)) (due fn)) (b : At r M w (fun x => staticsOk (importedModules r.prog.main.body) x.1.heap x.2.abs.heap && laidKept x.1.heap x.2.abs.heap) true)
    (b2 : At r M w (fun x => namesBound r.prog x.2.abs.heap && gensDone x.2.abs) true)
    (c : At r M w (fun x => seenQ q loose (importedModules r.prog.main.body) (fun s => xlAt q [] s && recOk r.toRowW.records s) x.2.abs) (openGood q loose)) : RunEqI r q (hook as fa fn ex) (fun s => obG as fa fn ex (getT s)) M loose w := by
  obtain ⟨x, hx, e1⟩ := Option.map_eq_some_iff.mp a
  obtain ⟨x2, hx2, e2⟩ := Option.map_eq_some_iff.mp b
  obtain ⟨x3, hx3, e3⟩ := Option.map_eq_some_iff.mp b2
  obtain ⟨x4, hx4, e4⟩ := Option.map_eq_some_iff.mp c
  rw [hx] at hx2 hx3 hx4
  cases hx2
  cases hx3
  cases hx4
  obtain ⟨p1, p2⟩ := Bool.and_eq_true_iff.mp e2
  obtain ⟨p3, p4⟩ := Bool.and_eq_true_iff.mp e3
  refine Option.map_eq_some_iff.mpr ⟨x, hx, ?_⟩
  have l : looksF r.prog x.1.heap x.2.abs = true := by
    unfold looksF
    rw [p1, p2, p3, p4]
    rfl
  rw [l, e4]
  exact congrArg (fun z => (true, openGood q loose, z)) e1
end Hk
namespace Hk
open PySem PySem.W PySem.Spec PyProof.Rows L2 He
/-- the class x has the name f as a property -/
def propB (K : Frag) (x f : Str) : Bool := eqO (findIn K (.ref (ga K x)) f) (some (some (.ref (ma K (ga K x) f)))) && (eqO (specialIn K (.ref (ma K (ga K x) f)) "__get__") (some (some (.builtin "property.__get__"))) &&
  (decide (takesIn K (.ref (ma K (ga K x) f)) = some true) && (match recIn K (ma K (ga K x) f) "property" with
    | some (.ref _ :: _) => true
    | _ => false)))
theorem propB_ok {K : Frag} {x f : Str} (h : propB K x f = true) : PropOf K (ga K x) f (ma K (ga K x) f) (getter K (ma K (ga K x) f)) := by
  obtain ⟨h1, h⟩ := Bool.and_eq_true_iff.mp h
  obtain ⟨h2, h⟩ := Bool.and_eq_true_iff.mp h
  obtain ⟨h3, h4⟩ := Bool.and_eq_true_iff.mp h
  refine ⟨eqO_ok h1, eqO_ok h2, of_decide_eq_true h3, ?_⟩
  unfold getter
  cases e : recIn K (ma K (ga K x) f) "property" with
  | none => rw [e] at h4; cases h4
  | some l =>
    rw [e] at h4
    cases l with
    | nil => cases h4
    | cons v r =>
      cases v with
      | ref g => exact ⟨r, rfl⟩
      | _ => cases h4
end Hk

set_option maxHeartbeats 1000000
/-! Classes: fields, methods and making by names; all promises are told by place. -/
namespace Yk
open PySem PySem.Spec PyProof.Rows L2
/-- a class of the text: its name's place, and the fields that its text has not -/
structure Ct (K : PySem.W.Frag) (mg : Str → Option Value) (x : Str) (C : Addr) (fs : List Str) : Prop where
  hm : mg x = some (.ref C)
  cls : Cls K C
  no : ∀ f ∈ fs, NoAttr K C f
/-- the object at a -/
def Ob (H : Hp) (C : Addr) (a : Addr) (fs : List (Str × V)) : Prop := ∃ dx, H a = some (.ins C dx fs)
theorem Ob.x {S : List Addr} {H H1 : Hp} {C a : Addr} {fs : List (Str × V)} (e : Ext S H H1) (h : Ob H C a fs) (hs : ∀ b ∈ S, ∃ l, H b = some (.lst l)) : Ob H1 C a fs := by
  obtain ⟨dx, h⟩ := h
  exact ⟨dx, e a _ h fun z => by obtain ⟨l, q⟩ := hs a z; rw [h] at q; cases q⟩
theorem Ob.x0 {H H1 : Hp} {C a : Addr} {fs : List (Str × V)} (e : Ext [] H H1) (h : Ob H C a fs) : Ob H1 C a fs := h.x e fun _ z => nomatch z
section
variable {X : Cx} {C : Addr} {x f m : Str} {fs : List Str} {o e value : Expr} {pos pos' p apos : Pos} {te ta tv : TE}
/-- e.f -/
def tAt (C : Addr) (f : Str) (te : TE) : TE := fun σ H Q => te σ H fun x H1 => ∃ a dx fs v, x = .ref a ∧ H1 a = some (.ins C dx fs) ∧ fs.lookup f = some v ∧ Q v H1
theorem pe_at (c : Ct X.K X.mg x C fs) (hf : f ∈ fs) (he : PE X e te) (hb : attributeBase e f X.env (eval e X.env) = eval e X.env := by rfl) : PE X (.Attribute e f pos) (tAt C f te) := by
  refine ⟨fun pins s σ H Q I h => ?_⟩
  refine attr_of hb (thn (he.run pins s σ H _ I h) fun u s1 ⟨x, H1, I1, rx, a, dx, fs, v, ex, ea, l, q⟩ => ?_)
  subst ex
  obtain rfl : u = Value.ref a := rx
  exact getattr_ok I1 ea c.cls (c.no _ hf) l fun u' s2 I2 ru => ⟨v, H1, I2, ru, q⟩
theorem r_at {a : Addr} {v : V} {fs : List (Str × V)} {σ : L2.St} {H : Hp} {Q : VK} (h1 : Ob H C a fs) (h2 : fs.lookup f = some v) (h : Q v H) : (fun x H1 => ∃ a dx fs v, x = V.ref a ∧ H1 a = some (.ins C dx fs) ∧ fs.lookup f = some v ∧ Q v H1) (V.ref a) H := by
  obtain ⟨dx, h1⟩ := h1
  exact ⟨a, dx, fs, v, rfl, h1, h2, h⟩
/-- e.f = value -/
def sAt (C : Addr) (f : Str) (te tv : TE) : TS := fun D σ H => tv σ H fun y H1 => te σ H1 fun x H2 => ∃ a dx fs, x = .ref a ∧ H2 a = some (.ins C dx fs) ∧ fs.length < 1000 ∧ D.nx σ (upd H2 a (.ins C dx (putF f y fs)))
theorem ps_at (c : Ct X.K X.mg x C fs) (hf : f ∈ fs) (ha : PE X o te) (hv : PE X value tv) (hs : swapsWith value (some (.Attribute o f pos')) pos.line X.env = pure false := by rfl) : PS X (.Assign [.Attribute o f pos'] value pos) (sAt C f te tv) := by
  refine ⟨fun pins s σ H D I h => ?_⟩
  refine plainObj_wpAny_Assign_Attribute (thn (hv.run pins s σ H _ I h) fun u s1 ⟨y, H1, I1, ry, q⟩ => thn (ha.run pins s1 σ H1 _ I1 q) fun ov s2 ⟨x, H2, I2, rx, a, dx, fs, ex, ea, l, q2⟩ => ?_) hs
  subst ex
  obtain rfl : ov = Value.ref a := rx
  exact setattr_ok I2 ea c.cls (c.no _ hf) l ry fun s3 I3 => ⟨σ, _, I3, q2⟩
end
section
variable (P : Program) (w : World) (K : PySem.W.Frag) (mg : Str → Option Value) (base : Heap)
/-- a method -/
structure Mt (k : Nat) (C : Addr) (m : Str) (sp : Sp) : Prop where
  run : ∃ f, Cls K C ∧ Meth K C m f ∧ FnR P w K mg base CX0 k f sp
/-- what makes an object: by place -/
structure Cr (k : Nat) (x : Str) (C : Addr) (sp : Sp) : Prop where
  run : ∃ f, mg x = some (.ref C) ∧ Mk K C f ∧ FnR P w K mg base CX0 k f sp
/-- .. with n values by place and the keywords ks: the parameters (the object ahead) are gV's -/
structure CrK (k : Nat) (x : Str) (C : Addr) (n : Nat) (ks : List Str) (gV : List V → List V → List V) (sp : Sp) : Prop where
  run : ∃ f fd ps g, mg x = some (.ref C) ∧ Mk K C f ∧ FnOk P w K mg base CX0 k f fd ps sp ∧ KBn K fd ps (n + 1) ks g gV
end
section
variable {X : Cx} {k n : Nat} {C : Addr} {sp : Sp} {x m : Str} {o e : Expr} {es : List Expr} {kws : List Keyword} {pos p apos : Pos} {te : TE} {t tk : TA} {pl : Sem Bool} {ks : List Str} {gV : List V → List V → List V}
/-- o.m(..) -/
def tMt (C : Addr) (m : Str) (sp : Sp) (te : TE) (t : TA) : TE := fun σ H Q => te σ H fun x H1 => ∃ a dx fs, x = .ref a ∧ H1 a = some (.ins C dx fs) ∧ fs.lookup m = none ∧ t σ H1 fun vs H2 => sp (x :: vs) H2 Q E0
theorem pe_mt (F : Mt X.prog X.w X.K X.mg X.base k C m sp) (hr : Room k X.A) (he : PE X o te) (ha : PA X (e :: es) t) (hx : Passes CX0 X E0 := by exact pass0)
    (hst : starEach (e :: es) X.env = (false, eval e X.env) :: starEach es X.env := by rfl) (hpl : (backTo pos (starEach es X.env)).any (·.1) = false := by rfl)
    (ht : eval (.Call (.Attribute o m apos) (e :: es) [] pos) X.env = (do
      let ov ← eval o X.env
      standAt apos.atName
      let (f, first) ← holding [ov] (getMethod ov m pl)
      callWith pos f first (backTo pos (starEach (e :: es) X.env)) (backToKw pos (keywordEach [] X.env))) := by rfl) :
    PE X (.Call (.Attribute o m apos) (e :: es) [] pos) (tMt C m sp te t) := by
  obtain ⟨f, c, hm, F⟩ := F.run
  refine ⟨fun pins s σ H Q I h => ?_⟩
  refine PySem.W.methodCall_KW (pl := pl) (thn (he.run pins s σ H _ I h) fun u s1 ⟨x, H1, I1, rx, a, dx, fs, ex, ea, l, q⟩ => ?_) ht
  subst ex
  obtain rfl : u = Value.ref a := rx
  refine getmeth_ok I1 ea c hm l ?_
  refine PySem.W.callWith_K (first := [.ref a]) (h₀ := X.base) I.ok.mod.kin hm.kp (thn (ha.run pos pins s1 σ H1 _ I1 q) fun us s2 ⟨vs, H2, I2, r, q2⟩ => ⟨I2.kIn, ?_⟩) hst hpl
  exact wpAny_call (run_fnR (us := .ref a :: us) (vs := .ref a :: vs) F hr hx I2 (.cons rfl r) q2)
theorem pe_mt0 (F : Mt X.prog X.w X.K X.mg X.base k C m sp) (hr : Room k X.A) (he : PE X o te) (hx : Passes CX0 X E0 := by exact pass0)
    (ht : eval (.Call (.Attribute o m apos) [] [] pos) X.env = (do
      let ov ← eval o X.env
      standAt apos.atName
      let (f, first) ← holding [ov] (getMethod ov m pl)
      callWith pos f first (backTo pos (starEach [] X.env)) (backToKw pos (keywordEach [] X.env))) := by rfl) :
    PE X (.Call (.Attribute o m apos) [] [] pos) (tMt C m sp te tNil) := by
  obtain ⟨f, c, hm, F⟩ := F.run
  refine ⟨fun pins s σ H Q I h => ?_⟩
  refine PySem.W.methodCall_KW (pl := pl) (thn (he.run pins s σ H _ I h) fun u s1 ⟨x, H1, I1, rx, a, dx, fs, ex, ea, l, q⟩ => ?_) ht
  subst ex
  obtain rfl : u = Value.ref a := rx
  refine getmeth_ok I1 ea c hm l ?_
  exact PySem.W.callWith_K0 (first := [.ref a]) I1.kIn hm.kp (wpAny_call (run_fnR (us := [.ref a]) (vs := [.ref a]) F hr hx I1 (.cons rfl .nil) q))
/-- C(e, ..) -/
def tCr (C : Addr) (sp : Sp) (t : TA) : TE := fun σ H Q => t σ H fun vs H1 => ∀ x dx, H1 x = Option.none → H1 dx = Option.none → dx ≠ x → sp (V.ref x :: vs) (upd (upd H1 dx (.own x)) x (.ins C dx [])) (fun v H2 => v = .non ∧ Q (.ref x) H2) E0
theorem pe_cr (F : Cr X.prog X.w X.K X.mg X.base k x C sp) (hr : Room (k + 1) X.A) (ha : PA X (e :: es) t) (hg : Gl X x := by rfl) (hx : Passes CX0 X E0 := by exact pass0) (hdb : (x == ("__debug__" : Str)) = false := by decide)
    (he : starEach (e :: es) X.env = (false, eval e X.env) :: starEach es X.env := by rfl) (hpl : (backTo pos (starEach es X.env)).any (·.1) = false := by rfl) : PE X (.Call (.Name x p) (e :: es) [] pos) (tCr C sp t) := by
  obtain ⟨f, hm, M, F⟩ := F.run
  exact StX.pe_makeR M F hr hg hm hx ha hdb he hpl
/-- C(e, .., *x) -/
theorem pe_crS2 (F : Cr X.prog X.w X.K X.mg X.base k x C sp) (hr : Room (k + 1) X.A) (ha : PA X (e :: es) t) (hg : Gl X x := by rfl) (hx : Passes CX0 X E0 := by exact pass0) (hdb : (x == ("__debug__" : Str)) = false := by decide)
    (he : starEach (e :: es) X.env = (false, eval e X.env) :: starEach es X.env := by rfl) (hst : (backTo pos (starEach es X.env)).any (·.1) = true := by rfl) : PE X (.Call (.Name x p) (e :: es) [] pos) (tCr C sp t) := by
  obtain ⟨f, hm, M, F⟩ := F.run
  refine ⟨fun pins s σ H Q I h => ?_⟩
  refine wpAny_Call_Name_kw (ld_glob I hg hm ?_ hdb)
  refine PySem.W.callWith_S2 (h₀ := X.base) I.ok.mod.kin M.kp (thn (ha.run pos pins s σ H _ I h) fun us s1 ⟨vs, H1, I1, r, q⟩ => ⟨I1.kIn, ?_⟩) he hst
  exact StX.run_makeR M F hr hx I1 r q
/-- C(e, .., k = v, ..) -/
def tCrK (C : Addr) (n m : Nat) (sp : Sp) (gV : List V → List V → List V) (t tk : TA) : TE := fun σ H Q => t σ H fun vs H1 => tk σ H1 fun zs H2 => vs.length = n ∧ zs.length = m ∧ ∀ x dx, H2 x = none → H2 dx = none → dx ≠ x →
  sp (gV (.ref x :: vs) zs) (upd (upd H2 dx (.own x)) x (.ins C dx [])) (fun v H3 => v = .non ∧ Q (.ref x) H3) E0
theorem pe_crK (F : CrK X.prog X.w X.K X.mg X.base k x C n ks gV sp) (hr : Room (k + 1) X.A) (ha : PA X (e :: es) t) (hkw : PK X kws tk) (hg : Gl X x := by rfl) (hx : Passes CX0 X E0 := by exact pass0)
    (hall : (backToKw pos (keywordEach kws X.env)).all (·.1.isSome) = true := by rfl) (hks : (backToKw pos (keywordEach kws X.env)).filterMap (·.1) = ks := by rfl) (hdb : (x == ("__debug__" : Str)) = false := by decide)
    (he : starEach (e :: es) X.env = (false, eval e X.env) :: starEach es X.env := by rfl) (hpl : ((backTo pos (starEach (e :: es) X.env)).any (·.1) || (backToKw pos (keywordEach kws X.env)).any (·.1.isNone)) = false := by rfl) :
    PE X (.Call (.Name x p) (e :: es) kws pos) (tCrK C n ks.length sp gV t tk) := by
  obtain ⟨f, fd, ps, g, hm, M, F, hb⟩ := F.run
  exact pe_makeK M F hr hg hm hb hx ha hkw hall hks hdb he hpl
theorem pe_crK0 (F : CrK X.prog X.w X.K X.mg X.base k x C 0 ks gV sp) (hr : Room (k + 1) X.A) (hkw : PK X kws tk) (hg : Gl X x := by rfl) (hx : Passes CX0 X E0 := by exact pass0)
    (hall : (backToKw pos (keywordEach kws X.env)).all (·.1.isSome) = true := by rfl) (hks : (backToKw pos (keywordEach kws X.env)).filterMap (·.1) = ks := by rfl) (hdb : (x == ("__debug__" : Str)) = false := by decide)
    (hpl : ((backTo pos (starEach [] X.env)).any (·.1) || (backToKw pos (keywordEach kws X.env)).any (·.1.isNone)) = false := by rfl) :
    PE X (.Call (.Name x p) [] kws pos) (tCrK C 0 ks.length sp gV tNil tk) := by
  obtain ⟨f, fd, ps, g, hm, M, F, hb⟩ := F.run
  exact pe_makeK0 M F hr hg hm hb hx hkw hall hks hdb hpl
end
section
variable {P : Program} {w : World} {K : PySem.W.Frag} {mg : Str → Option Value} {base : Heap} {f C : Addr} {fd : FuncData} {x qual : Str} {params : Arguments} {body : List Stmt} {scope : Scope} {dvs : List V} {kws : List (Str × V)} {N ps : List Str} {k : Nat} {sp : Sp}
/-- a method (or a def with defaults) keeps its promise -/
theorem ok_meth (F : FunD K x qual params body scope dvs kws f fd) (S : FnScope N ps scope) (len : ∀ vs H Q E, sp vs H Q E → vs.length = ps.length)
    (hbody : ∀ (cdv : Value) (A : Around) (outer : List Env) (s : Shared) (H : Hp) (vs : List V) (Q : VK) (E : XK), Room k (A.deeper (envOfC qual scope s.heap.objs.size f cdv)) → sp vs H Q E →
      ∃ t, PSs (cxOf CX0 P w K mg base N qual scope f cdv A outer s H E).nox body t ∧ t ⟨fun _ H' => Q .non H', Q, fun _ _ => False, fun _ _ => False⟩ (start N vs) H) : FnOk P w K mg base CX0 (k + 1) f fd ps sp :=
  F.ok S len fun cdv A outer s H vs Q E hr h => by
    obtain ⟨t, h1, h2⟩ := hbody cdv A outer s H vs Q E hr h
    exact ⟨t, h1.nox, h2⟩
theorem raw_meth (F : FunD K x qual params body scope [] [] f fd) (G : FnOk P w K mg base CX0 k f fd ps sp)
    (hb : ∀ (kV doc pm : Value) (an : Option Addr) (cdv ct : Value) (us : List Value), us.length = ps.length → bindArgs (PySem.W.fnOf x qual params body scope .none kV doc pm an cdv ct) ⟨us, []⟩ = pure (ps.zip us)) : FnR P w K mg base CX0 k f sp := by
  have b := F.bindsN hb
  have R := G.raw b .nil
  refine R.imp fun vs H Q E h => ?_
  rw [List.append_nil]
  exact h
/-- def m(self, .., *v) -/
theorem raw_star {pv : Str} {sp' : Sp} (F : FunD K x qual params body scope [] [] f fd) (S : FnScope N (ps ++ [pv]) scope)
    (hb : ∀ (kV doc pm : Value) (an : Option Addr) (cdv ct : Value) (us rest : List Value), us.length = ps.length → bindArgs (PySem.W.fnOf x qual params body scope .none kV doc pm an cdv ct) ⟨us ++ rest, []⟩ = (newTuple rest >>= fun t => pure (ps.zip us ++ [(pv, t)])))
    (hbody : ∀ (cdv : Value) (A : Around) (outer : List Env) (s : Shared) (H : Hp) (vs : List V) (Q : VK) (E : XK), Room k (A.deeper (envOfC qual scope s.heap.objs.size f cdv)) → sp vs H Q E →
      ∃ t, PSs (cxOf CX0 P w K mg base N qual scope f cdv A outer s H E).nox body t ∧ t ⟨fun _ H' => Q .non H', Q, fun _ _ => False, fun _ _ => False⟩ (start N vs) H)
    (himp : ∀ vs H Q E, sp' vs H Q E → ∃ ws rest, vs = ws ++ rest ∧ ws.length = ps.length ∧ rest.length ≤ sizeLine ∧ ∀ p, H p = none → sp (ws ++ [V.ref p]) (upd H p (.tup rest)) Q E) : FnR P w K mg base CX0 (k + 1) f sp' := by
  obtain ⟨oc, od, dV, kV, doc, pm, an, cdv, ct, osl, rfl, lk, hcd, hD, _⟩ := F.ex
  rcases hD with ⟨_, rfl⟩ | ⟨e, _⟩
  · have R := StX.fn_star (P := P) (w := w) (mg := mg) (base := base) (sp := sp) lk hcd S StX.cxUp_none (hb kV doc pm an cdv ct) (fun A outer s H vs Q E hr h => let ⟨t, h1, h2⟩ := hbody cdv A outer s H vs Q E hr h; ⟨t, h1.nox, h2⟩)
    exact R.imp himp
  · exact absurd rfl e
theorem mt_of (c : Cls K C) (hm : Meth K C x f) (R : FnR P w K mg base CX0 k f sp) : Mt P w K mg base k C x sp := ⟨f, c, hm, R⟩
theorem cr_of {y : Str} (hy : mg y = some (.ref C)) (M : Mk K C f) (R : FnR P w K mg base CX0 k f sp) : Cr P w K mg base k y C sp := ⟨f, hy, M, R⟩
end
end Yk
namespace Yk
open PySem PySem.Spec PyProof.Rows L2
theorem upd_upd {H : Hp} {a : Addr} {x y : HO} : upd (upd H a x) a y = upd H a y := by
  funext b
  by_cases h : a = b
  · subst h; rw [upd_same, upd_same]
  · rw [upd_ne (Ne.symm h), upd_ne (Ne.symm h), upd_ne (Ne.symm h)]
theorem upd_self {H : Hp} {a : Addr} {x : HO} (h : H a = some x) : upd H a x = H := by
  funext b
  by_cases q : a = b
  · subst q; rw [upd_same, h]
  · rw [upd_ne (Ne.symm q)]
section
variable {nx : L2.St → Hp → Prop} {rt : VK} {bk ct : L2.St → Hp → Prop} {σ : L2.St} {H : Hp} {K : PySem.W.Frag} {Q : VK} {te ta tb tc tv : TE} {C a dx : Addr} {f m : Str} {fs : List (Str × V)} {v y : V} {r r' : R2} {sp : Sp} {t tk : TA}
theorem r_tAt (h : te σ H fun x H1 => ∃ a dx fs v, x = .ref a ∧ H1 a = some (.ins C dx fs) ∧ fs.lookup f = some v ∧ Q v H1) : tAt C f te σ H Q := h
theorem r_fld {R : V → Prop} (h1 : H a = some (.ins C dx fs)) (h2 : fs.lookup f = some v) (h : R v) : ∃ a' dx' fs' v', V.ref a = .ref a' ∧ H a' = some (.ins C dx' fs') ∧ fs'.lookup f = some v' ∧ R v' := ⟨a, dx, fs, v, rfl, h1, h2, h⟩
theorem r_sAt (h : tv σ H fun y H1 => te σ H1 fun x H2 => ∃ a dx fs, x = .ref a ∧ H2 a = some (.ins C dx fs) ∧ fs.length < 1000 ∧ nx σ (upd H2 a (.ins C dx (putF f y fs)))) : sAt C f te tv ⟨nx, rt, bk, ct⟩ σ H := h
theorem r_put {R : Hp → Prop} (h1 : H a = some (.ins C dx fs)) (h2 : fs.length < 1000) (h : R (upd H a (.ins C dx (putF f y fs)))) : ∃ a' dx' fs', V.ref a = .ref a' ∧ H a' = some (.ins C dx' fs') ∧ fs'.length < 1000 ∧ R (upd H a' (.ins C dx' (putF f y fs'))) := ⟨a, dx, fs, rfl, h1, h2, h⟩
theorem putF_lt {N : Nat} (h : fs.length < N) : (putF f v fs).length < N + 1 := Nat.lt_of_le_of_lt (length_putF f v fs) (by omega)
theorem r_putU {R : Hp → Prop} (h2 : fs.length < 1000) (h : R (upd H a (.ins C dx (putF f y fs)))) : ∃ a' dx' fs', V.ref a = .ref a' ∧ upd H a (.ins C dx fs) a' = some (.ins C dx' fs') ∧ fs'.length < 1000 ∧ R (upd (upd H a (.ins C dx fs)) a' (.ins C dx' (putF f y fs'))) :=
  ⟨a, dx, fs, rfl, upd_same, h2, by rw [upd_upd]; exact h⟩
theorem r_tMt (h : te σ H fun x H1 => ∃ a dx fs, x = .ref a ∧ H1 a = some (.ins C dx fs) ∧ fs.lookup m = none ∧ t σ H1 fun vs H2 => sp (x :: vs) H2 Q E0) : tMt C m sp te t σ H Q := h
theorem r_met {R : Prop} (h1 : H a = some (.ins C dx fs)) (h2 : fs.lookup m = none) (h : R) : ∃ a' dx' fs', V.ref a = .ref a' ∧ H a' = some (.ins C dx' fs') ∧ fs'.lookup m = none ∧ R := ⟨a, dx, fs, rfl, h1, h2, h⟩
theorem r_tCr (h : t σ H fun vs H1 => ∀ x dx, H1 x = Option.none → H1 dx = Option.none → dx ≠ x → sp (V.ref x :: vs) (upd (upd H1 dx (.own x)) x (.ins C dx [])) (fun v H2 => v = .non ∧ Q (.ref x) H2) E0) : tCr C sp t σ H Q := h
theorem r_tCrK {n k : Nat} {gV : List V → List V → List V} (h : t σ H fun vs H1 => tk σ H1 fun zs H2 => vs.length = n ∧ zs.length = k ∧ ∀ x dx, H2 x = none → H2 dx = none → dx ≠ x →
  sp (gV (.ref x :: vs) zs) (upd (upd H2 dx (.own x)) x (.ins C dx [])) (fun v H3 => v = .non ∧ Q (.ref x) H3) E0) : tCrK C n k sp gV t tk σ H Q := h
theorem r_chain (h : ta σ H fun x H1 => tb σ H1 fun y H2 => r x y H2 fun z H3 => ∃ k, z = .bl k ∧ (if k = true then tc σ H3 fun w' H4 => r' y w' H4 Q else Q (.bl false) H3)) : tChain r r' ta tb tc σ H Q := h
theorem r_in {neg : Bool} {p : Addr} {xs : List V} {x : V} (h1 : SqL K H p xs ∨ SqT K H p xs) (h2 : flatV x = true) (h3 : xs.all flatV = true) (h : Q (.bl (if neg then !inV x xs else inV x xs)) H) : rIn K neg x (.ref p) H Q := ⟨p, xs, rfl, h1, h2, h3, h⟩
end
/-! isinstance of the text's own classes; constants of a class -/
/-- the type of the class's objects is the class -/
structure Ty1 (K : PySem.W.Frag) (C : Addr) : Prop where
  ty : ∀ (H : Hp) (a dx : Addr) (fs : List (Str × V)), H a = some (.ins C dx fs) → TyX K H (.ref a) (.ref C)
section
variable {H : Hp} {K : PySem.W.Frag} {Q : VK} {C D D1 D2 a p dx : Addr} {fs : List (Str × V)} {b : Bool} {te : TE} {f : Str} {σ : L2.St}
theorem r_isiO (Y : Ty1 K C) (h : H a = some (.ins C dx fs)) (e : PySem.W.kitOne K (.ref C) (.ref D) = some b) (k : Q (.bl b) H) : rIsi K [.ref a, .ref D] H Q := ⟨.ref a, .ref D, .ref C, .ref D, b, rfl, .own D, Y.ty _ _ _ _ h, e, k⟩
theorem r_isiOT (Y : Ty1 K C) (hp : H p = some (.tup [.ref D1, .ref D2])) (h : H a = some (.ins C dx fs)) (e : PySem.W.kitAny K (.ref C) [.ref D1, .ref D2] = some b) (k : Q (.bl b) H) : rIsiT K [.ref a, .ref p] H Q :=
  ⟨.ref a, p, [.ref D1, .ref D2], .ref C, [.ref D1, .ref D2], b, rfl, hp, .cons (.own D1) (.cons (.own D2) .nil), Y.ty _ _ _ _ h, e, k⟩
/-- C.f, a constant of the class -/
theorem r_cval {mc : Value} {v : V} {u : Value} (r : ClX.CRead K C mc) (c : ClX.CVal K C mc f v u) (h : Q v H) : ClX.tCVal K (tC (.ref C)) f σ H Q := ⟨C, mc, v, u, rfl, r, c, h⟩
end
end Yk
namespace Yk
open PySem PySem.Spec PyProof.Rows L2
section
variable (P : Program) (w : World) (K : PySem.W.Frag) (mg : Str → Option Value) (base : Heap)
/-- a property -/
structure Pr (k : Nat) (C : Addr) (f : Str) (sp : Sp) : Prop where
  run : ∃ p g fd, Cls K C ∧ PropOf K C f p g ∧ FnOk P w K mg base CX0 k g fd ["self"] sp ∧ Binds K fd ["self"] []
end
section
variable {X : Cx} {k : Nat} {C : Addr} {f : Str} {sp : Sp} {e : Expr} {te : TE} {pos : Pos}
/-- e.f, f a property -/
def tPr (C : Addr) (sp : Sp) (te : TE) : TE := fun σ H Q => te σ H fun x H1 => ∃ a dx fs, x = .ref a ∧ H1 a = some (.ins C dx fs) ∧ sp [.ref a] H1 Q E0
theorem pe_pr (F : Pr X.prog X.w X.K X.mg X.base k C f sp) (hr : Room (k + 1) X.A) (he : PE X e te) (hab : attributeBase e f X.env (eval e X.env) = eval e X.env := by rfl) : PE X (.Attribute e f pos) (tPr C sp te) := by
  obtain ⟨p, g, fd, c, hp, G, hb⟩ := F.run
  exact pe_prop he c hp G hr hb .nil pass0 hab
theorem r_tPr {σ : L2.St} {H : Hp} {Q : VK} (h : te σ H fun x H1 => ∃ a dx fs, x = .ref a ∧ H1 a = some (.ins C dx fs) ∧ sp [.ref a] H1 Q E0) : tPr C sp te σ H Q := h
theorem r_prp {H : Hp} {a dx : Addr} {fs : List (Str × V)} {R : Prop} (h1 : H a = some (.ins C dx fs)) (h : R) : ∃ a' dx' fs', V.ref a = .ref a' ∧ H a' = some (.ins C dx' fs') ∧ R := ⟨a, dx, fs, rfl, h1, h⟩
end
end Yk

set_option maxHeartbeats 1000000
/-! zip of three, each a list or a tuple. -/
namespace Yk
open PySem PySem.Spec PyProof.Rows L2
/-- a list (true) or a tuple at a -/
def SqB (K : PySem.W.Frag) (k : Bool) (H : Hp) (a : Addr) (xs : List V) : Prop := match k with
  | true => SqL K H a xs
  | false => SqT K H a xs
/-- its iterator -/
def ItB (k : Bool) (h : Heap) (it l : Addr) (i : Nat) : Prop := match k with
  | true => h.IsListIter it l i
  | false => h.IsTupleIter it l i
def SeB (k : Bool) (h : Heap) (l : Addr) (items : Array Value) : Prop := match k with
  | true => h.IsList l items
  | false => h.IsTuple l items
def ioB (k : Bool) (l : Addr) : Obj := match k with
  | true => { cls := .type "list_iterator", data := .fields #[.ref l, .int 0 0] }
  | false => { cls := .type "tuple_iterator", data := .fields #[.ref l, .int 0 0] }
theorem drawsB {prog : Program} {w : World} {A : Around} (hh : A.handled = none) (k : Bool) (it l : Addr) (hne : l ≠ it) (items : Array Value) :
    Draws prog w A it [it, l] items.size (fun i v => items[i]? = some v) (fun i h => ItB k h it l i ∧ SeB k h l items) := by
  cases k with
  | true => exact Draws.list hh it l hne items
  | false => exact Draws.tuple hh it l hne items
theorem beginsB (k : Bool) (l : Addr) (items : Array Value) : Begins (.ref l) (ioB k l) fun h => SeB k h l items := by
  cases k with
  | true => exact begins_list l items
  | false => exact begins_tuple l items
theorem ItB.at_ {k : Bool} {h h' : Heap} {it l : Addr} {i : Nat} (x : ItB k h it l i) (e : ∀ o, h.get? it = some o → h'.get? it = some o) : ItB k h' it l i := by
  cases k with
  | true => exact Heap.IsListIter.at x e
  | false => exact Heap.IsTupleIter.at x e
theorem ItB.ob {k : Bool} {h : Heap} {it l : Addr} {i : Nat} (x : ItB k h it l i) : ∃ o, h.get? it = some o ∧ ∀ v, o.data ≠ .cell v := by
  cases k with
  | true => obtain ⟨o, e, _, d⟩ := x; exact ⟨o, e, fun v q => by rw [d] at q; cases q⟩
  | false => obtain ⟨o, e, _, d⟩ := x; exact ⟨o, e, fun v q => by rw [d] at q; cases q⟩
theorem itB_new {k : Bool} {h : Heap} {it l : Addr} (e : h.get? it = some (ioB k l)) : ItB k h it l 0 := by
  cases k with
  | true => exact ⟨_, e, rfl, rfl⟩
  | false => exact ⟨_, e, rfl, rfl⟩
theorem seB_of {X : Cx} {pins : List (Addr × Obj)} {σ : L2.St} {H : Hp} {s : Shared} {k : Bool} {a : Addr} {xs : List V} (I : Inv X pins σ H s) (h : SqB X.K k H a xs) : ∃ its, Vals xs its ∧ SeB k s.heap a its.toArray ∧ a < s.heap.objs.size := by
  cases k with
  | true =>
    obtain ⟨its, rv, p, _⟩ := I.list h
    exact ⟨its, rv, p.isList, p.lt⟩
  | false =>
    obtain ⟨its, rv, p, _⟩ := I.tuple h
    have p' : s.heap.IsTuple a its.toArray := p
    obtain ⟨o, ho, _⟩ := id p'
    exact ⟨its, rv, p', Heap.lt_size ho⟩
theorem sqB_inj {X : Cx} {pins : List (Addr × Obj)} {σ : L2.St} {H : Hp} {s : Shared} {k : Bool} {a : Addr} {xs ys : List V} (I : Inv X pins σ H s) (h : SqB X.K k H a xs) (g : SqB X.K k H a ys) : ys = xs := by
  cases k with
  | true => exact I.list_inj g h
  | false => exact I.tuple_inj g h
/-- three as they stand at each turn, the items in new triples -/
def ItZ3 (K : PySem.W.Frag) (k1 k2 k3 : Bool) (a b c : Addr) : It :=
  ⟨fun i H => ∃ (xs ys zs : List V) (x y z : V), SqB K k1 H a xs ∧ SqB K k2 H b ys ∧ SqB K k3 H c zs ∧ xs[i]? = some x ∧ ys[i]? = some y ∧ zs[i]? = some z,
    fun i H v H' => ∃ T x y z, v = .ref T ∧ H T = none ∧ H' = upd H T (.tup [x, y, z]) ∧ (∀ xs, SqB K k1 H a xs → xs[i]? = some x) ∧ (∀ ys, SqB K k2 H b ys → ys[i]? = some y) ∧ ∀ zs, SqB K k3 H c zs → zs[i]? = some z,
    fun i H => ∃ xs ys zs : List V, SqB K k1 H a xs ∧ SqB K k2 H b ys ∧ SqB K k3 H c zs ∧ xs.length = i ∧ ys.length = i ∧ zs.length = i⟩
structure Z3Apart (z TI TO i1 i2 i3 a b c : Addr) : Prop where
  nd : [z, TI, TO, i1, i2, i3].Nodup
  a : a ∉ [z, TI, TO, i1, i2, i3]
  b : b ∉ [z, TI, TO, i1, i2, i3]
  c : c ∉ [z, TI, TO, i1, i2, i3]
theorem Z3Apart.sep {z TI TO i1 i2 i3 a b c : Addr} (D : Z3Apart z TI TO i1 i2 i3 a b c) : ZipSep3 z TI TO i1 i2 i3 [i1, a] [i2, b] [i3, c] := by
  have h := D.nd
  have ha := D.a
  have hb := D.b
  have hc := D.c
  simp only [List.nodup_cons, List.mem_cons, List.not_mem_nil, or_false, not_or] at h ha hb hc
  constructor <;> (try simp only [List.mem_cons, List.not_mem_nil, or_false, not_or, true_or]) <;> grind
theorem turn_z3 {P : Program} {w : World} {K : PySem.W.Frag} {elts : List Expr} {kk : Nat} {tpos : Pos} {k1 k2 k3 : Bool} {a b c z TI TO i1 i2 i3 : Addr} (D : Z3Apart z TI TO i1 i2 i3 a b c) :
    Turn P w K (.Tuple elts kk tpos) (ItZ3 K k1 k2 k3 a b c) [z, TI, TO, i1, i2, i3] z (fun i h => IsZip h z TI TO .none ∧ IsTupOf3 h TI (.ref i1) (.ref i2) (.ref i3) ∧ (∃ x y u, IsTupOf3 h TO x y u) ∧ ItB k1 h i1 a i ∧ ItB k2 h i2 b i ∧ ItB k3 h i3 c i) where
  mem := by simp
  obj := fun i h st d hd => by
    obtain ⟨hz, hTI, ⟨x, y, u, hTO⟩, h1, h2, h3⟩ := st
    have e' : d = z ∨ d = TI ∨ d = TO ∨ d = i1 ∨ d = i2 ∨ d = i3 := by simpa using hd
    rcases e' with q | q | q | q | q | q
    · rw [q]; exact ⟨_, hz, fun v q => nomatch q⟩
    · rw [q]; exact ⟨_, hTI, fun v q => nomatch q⟩
    · rw [q]; exact ⟨_, hTO, fun v q => nomatch q⟩
    · rw [q]; exact h1.ob
    · rw [q]; exact h2.ob
    · rw [q]; exact h3.ob
  keep := fun i h h' st k => by
    obtain ⟨hz, hTI, ⟨x, y, u, hTO⟩, h1, h2, h3⟩ := st
    exact ⟨k z (by simp) _ hz, k TI (by simp) _ hTI, ⟨x, y, u, k TO (by simp) _ hTO⟩, h1.at_ fun o q => k i1 (by simp) o q, h2.at_ fun o q => k i2 (by simp) o q, h3.at_ fun o q => k i3 (by simp) o q⟩
  item := by
    intro X hP hw hK hc i pins s σ H E I hf st hg
    subst hP hw hK
    obtain ⟨hz, hTI, ⟨x0, y0, u0, hTO⟩, h1, h2, h3⟩ := st
    obtain ⟨xs, ys, zs, x, y, v, hqx, hqy, hqz, hx, hy, hv⟩ := hg
    obtain ⟨its, rv, p, la⟩ := seB_of I hqx
    obtain ⟨its2, rv2, p2, lb⟩ := seB_of I hqy
    obtain ⟨its3, rv3, p3, lc⟩ := seB_of I hqz
    obtain ⟨u, hu, ru⟩ := rv.get hx
    obtain ⟨u2, hu2, ru2⟩ := rv2.get hy
    obtain ⟨u3, hu3, ru3⟩ := rv3.get hv
    have S := D.sep
    have hh : X.A.in1.handled = none := I.ok.hd hc
    have lt1 : i < its.toArray.size := by simpa using (List.getElem?_eq_some_iff.mp hu).1
    have lt2 : i < its2.toArray.size := by simpa using (List.getElem?_eq_some_iff.mp hu2).1
    have lt3 : i < its3.toArray.size := by simpa using (List.getElem?_eq_some_iff.mp hu3).1
    have na : a ≠ i1 := fun q => D.a (by rw [q]; simp)
    have nb : b ≠ i2 := fun q => D.b (by rw [q]; simp)
    have nc : c ≠ i3 := fun q => D.c (by rw [q]; simp)
    have hzl : z < s.heap.objs.size := Heap.lt_size hz
    refine wpAny_pyNext_zipD3_item S (drawsB hh k1 i1 a na its.toArray) (drawsB hh k2 i2 b nb its2.toArray) (drawsB hh k3 i3 c nc its3.toArray) hz hTI hTO ⟨h1, p⟩ ⟨h2, p2⟩ ⟨h3, p3⟩ lt1 lt2 lt3 fun x1 x2 x3 h' tk e1 e2 e3 z' TO' s1 s2 s3 hT hsz hk => ?_
    have f1 : x1 = u := by
      have e1 : its[i]? = some x1 := by simpa using e1
      rw [hu] at e1
      exact (Option.some.inj e1).symm
    have f2 : x2 = u2 := by
      have e2 : its2[i]? = some x2 := by simpa using e2
      rw [hu2] at e2
      exact (Option.some.inj e2).symm
    have f3 : x3 = u3 := by
      have e3 : its3[i]? = some x3 := by simpa using e3
      rw [hu3] at e3
      exact (Option.some.inj e3).symm
    subst f1 f2 f3
    refine ⟨_, rfl, wpAny_letOwnedTupleGo_zip (s := { s with heap := h', toks := tk }) z' fun h'' z'' sb => ?_⟩
    have hT2 : h''.get? s.heap.objs.size = some { cls := .type "tuple", data := .seq #[x1, x2, x3] } := (sb.2 _ (Nat.ne_of_gt hzl)).trans hT
    have new : ObjOk X.prog X.w (upd H s.heap.objs.size (.tup [x, y, v])) h'' s.heap.objs.size (.tup [x, y, v]) :=
      ⟨by show 3 ≤ sizeLine; decide, [x1, x2, x3], .cons ru (.cons ru2 (.cons ru3 .nil)), ⟨_, hT2, rfl, _, rfl⟩⟩
    have I1 : Inv X pins σ (upd H s.heap.objs.size (.tup [x, y, v])) { s with heap := h'', toks := tk } :=
      I.turnedNew (t' := tk) (ch := [z, TI, TO, i1, i2, i3]) (fun d o hb q => (sb.2 d (fun q' => hb (by simp [q']))).trans (hk d o (fun q' => hb (by simp [q'])) (fun q' => hb (by simp [q'])) (fun q' => hb (by simp [q'])) (fun q' => hb (by simp [q'])) (fun q' => hb (by simp [q'])) q)) hf (Nat.le_refl _) new
    have nd := D.nd
    simp only [List.nodup_cons, List.mem_cons, List.not_mem_nil, or_false, not_or] at nd
    refine ⟨.ref s.heap.objs.size, _, I1, rfl, ⟨_, x, y, v, rfl, I.hok.fresh (Nat.le_refl _), rfl, fun l hl => by rw [sqB_inj I hqx hl]; exact hx, fun l hl => by rw [sqB_inj I hqy hl]; exact hy, fun l hl => by rw [sqB_inj I hqz hl]; exact hv⟩, ⟨z'', ?_, ⟨x1, x2, x3, ?_⟩, ?_, ?_, ?_⟩, fun d hd => ?_⟩
    · exact (sb.2 _ S.TIz).trans (hk _ _ S.TIz S.TITO S.TIi1 S.TIi2 S.TIi3 hTI)
    · exact (sb.2 _ S.TOz).trans TO'
    · exact s1.1.at_ fun o q => (sb.2 _ (S.zi1.symm)).trans q
    · exact s2.1.at_ fun o q => (sb.2 _ (S.zi2.symm)).trans q
    · exact s3.1.at_ fun o q => (sb.2 _ (S.zi3.symm)).trans q
    · have hlt : d < s.heap.objs.size := by
        have e' : d = z ∨ d = TI ∨ d = TO ∨ d = i1 ∨ d = i2 ∨ d = i3 := by simpa using hd
        rcases e' with q | q | q | q | q | q
        · rw [q]; exact hzl
        · rw [q]; exact Heap.lt_size hTI
        · rw [q]; exact Heap.lt_size hTO
        · rw [q]; obtain ⟨_, e, _⟩ := h1.ob; exact Heap.lt_size e
        · rw [q]; obtain ⟨_, e, _⟩ := h2.ob; exact Heap.lt_size e
        · rw [q]; obtain ⟨_, e, _⟩ := h3.ob; exact Heap.lt_size e
      rw [upd_ne (Nat.ne_of_lt hlt)]
      exact (hf d hd).1
  done := by
    intro X hP hw hK hc i pins s σ H E I hf st hg
    subst hP hw hK
    obtain ⟨hz, hTI, ⟨x0, y0, u0, hTO⟩, h1, h2, h3⟩ := st
    obtain ⟨xs, ys, zs, hqx, hqy, hqz, e1, e2, e3⟩ := hg
    obtain ⟨its, rv, p, la⟩ := seB_of I hqx
    obtain ⟨its2, rv2, p2, lb⟩ := seB_of I hqy
    obtain ⟨its3, rv3, p3, lc⟩ := seB_of I hqz
    have S := D.sep
    have hh : X.A.in1.handled = none := I.ok.hd hc
    have l1 : i = its.toArray.size := by have := rv.length; simp; omega
    have l2 : i = its2.toArray.size := by have := rv2.length; simp; omega
    have l3 : i = its3.toArray.size := by have := rv3.length; simp; omega
    have na : a ≠ i1 := fun q => D.a (by rw [q]; simp)
    have nb : b ≠ i2 := fun q => D.b (by rw [q]; simp)
    have nc : c ≠ i3 := fun q => D.c (by rw [q]; simp)
    exact wpAny_pyNext_zipD3_end S (drawsB hh k1 i1 a na its.toArray) (drawsB hh k2 i2 b nb its2.toArray) (drawsB hh k3 i3 c nc its3.toArray) hz hTI hTO ⟨h1, p⟩ ⟨h2, p2⟩ ⟨h3, p3⟩ (Nat.le_of_eq l1) (Nat.le_of_eq l2) (Nat.le_of_eq l3) (.inl l1) fun h' tk hk =>
      ⟨rfl, I.turnedL (t' := tk) (ch := [z, TI, TO, i1, i2, i3]) (fun d o hb q => hk d o (fun q' => hb (by simp [q'])) (fun q' => hb (by simp [q'])) (fun q' => hb (by simp [q'])) (fun q' => hb (by simp [q'])) (fun q' => hb (by simp [q'])) q) hf⟩
  self := fun A i s Q E st h => wpAny_pyIter_zip st.1 h
def iZip3 (K : PySem.W.Frag) (ta : TA) : TI := fun σ H R => ta σ H fun vs H1 => ∃ (k1 k2 k3 : Bool) (a b c : Addr) (xs ys zs : List V), vs = [.ref a, .ref b, .ref c] ∧ SqB K k1 H1 a xs ∧ SqB K k2 H1 b ys ∧ SqB K k3 H1 c zs ∧ R (ItZ3 K k1 k2 k3 a b c) H1
theorem z3_apart (I l1 l2 l3 : Nat) (h1 : l1 < I) (h2 : l2 < I) (h3 : l3 < I) : Z3Apart (I + 5) (I + 3) (I + 4) I (I + 1) (I + 2) l1 l2 l3 := by
  constructor <;> (first | simp | skip) <;> (try refine ⟨?_, ?_⟩) <;> grind
theorem pi_zip3 {X : Cx} {e e2 e3 : Expr} {ta : TA} {p pos tpos : Pos} {elts : List Expr} {kk : Nat} (hg : Gl X "zip") (hm : X.mg "zip" = none) (ha : PA X [e, e2, e3] ta)
    (hs : starEach [e, e2, e3] X.env = (false, eval e X.env) :: starEach [e2, e3] X.env := by rfl) (hpl : (backTo pos (starEach [e2, e3] X.env)).any (·.1) = false := by rfl) :
    PI X (.Tuple elts kk tpos) (.Call (.Name "zip" p) [e, e2, e3] [] pos) (iZip3 X.K ta) := by
  refine ⟨fun pins s σ H R I h => ?_⟩
  refine Call_ (ld_blt I hg hm PyProof.Rows.boot_zip (PyProof.Rows.callWith_type1 (thn (ha.run pos pins s σ H _ I h) fun us s1 ⟨vs, H1, I1, r1, q1⟩ => ?_) hs hpl))
  obtain ⟨k1, k2, k3, a, b, c, xs, ys, zs, ex, hqx, hqy, hqz, q⟩ := q1
  subst ex
  cases r1 with
  | cons r rr =>
    cases rr with
    | cons r' rr =>
      cases rr with
      | cons r'' rr =>
        cases rr
        cases r
        cases r'
        cases r''
        have fresh6 : ∀ d, d ∈ [s1.heap.objs.size + 5, s1.heap.objs.size + 3, s1.heap.objs.size + 4, s1.heap.objs.size, s1.heap.objs.size + 1, s1.heap.objs.size + 2] → FpOk X pins H1 d := fun d hd => by
          have hle : s1.heap.objs.size ≤ d := by
            simp only [List.mem_cons, List.not_mem_nil, or_false] at hd
            rcases hd with z | z | z | z | z | z <;> rw [z] <;> omega
          exact I1.fpOk hle (I1.hok.fresh hle)
        obtain ⟨its, rv, p1, la⟩ := seB_of I1 hqx
        obtain ⟨its2, rv2, p2, lb⟩ := seB_of I1 hqy
        obtain ⟨its3, rv3, p3, lc⟩ := seB_of I1 hqz
        refine zip_begins3 (beginsB k1 a its.toArray) (beginsB k2 b its2.toArray) (beginsB k3 c its3.toArray) p1 p2 p3 fun h' hz hTI hTO h1 h2 h3 hsz hk => wpAny_pyIter_zip hz ?_
        have I2 : Inv X pins σ H1 { s1 with heap := h' } := I1.kept (t' := s1.toks) hk
        exact ⟨s1.heap.objs.size + 5, [s1.heap.objs.size + 5, s1.heap.objs.size + 3, s1.heap.objs.size + 4, s1.heap.objs.size, s1.heap.objs.size + 1, s1.heap.objs.size + 2], _, _, H1, rfl, I2, turn_z3 (z3_apart s1.heap.objs.size a b c la lb lc), ⟨hz, hTI, ⟨_, _, _, hTO⟩, itB_new h1, itB_new h2, itB_new h3⟩, fresh6, q⟩
section
variable {σ : L2.St} {H : Hp} {K : PySem.W.Frag}
theorem r_iZip3 {ta : TA} {R : It → Hp → Prop} (h : ta σ H fun vs H1 => ∃ (k1 k2 k3 : Bool) (a b c : Addr) (xs ys zs : List V), vs = [.ref a, .ref b, .ref c] ∧ SqB K k1 H1 a xs ∧ SqB K k2 H1 b ys ∧ SqB K k3 H1 c zs ∧ R (ItZ3 K k1 k2 k3 a b c) H1) : iZip3 K ta σ H R := h
/-- a comprehension over three of one length -/
theorem r_lcZ3 {k1 k2 k3 : Bool} {a b c : Addr} {xs ys zs : List V} {g : TG} {tt : TT} {te : TE} {vs : List Nat} {D : Addr} {Qd : Hp → Prop} (hl : xs.length = ys.length) (hl2 : xs.length = zs.length) (Pv : Nat → Hp → Prop) (h0 : Pv 0 (upd H D (.lst []))) (hq : ∀ i H, Pv i H → SqB K k1 H a xs ∧ SqB K k2 H b ys ∧ SqB K k3 H c zs)
    (hs : ∀ (i : Nat) (x y z : V) (T : Addr) (H : Hp), xs[i]? = some x → ys[i]? = some y → zs[i]? = some z → Pv i H → H T = none → g (.ref T) (wipe σ vs) (upd H T (.tup [x, y, z])) fun σ2 H2 => wipe σ2 vs = wipe σ vs ∧ tt σ2 H2 fun b H3 =>
      if b = true then te σ2 H3 fun y H4 => ∃ acc, H4 D = some (.lst acc) ∧ acc.length < sizeLine ∧ Pv (i + 1) (upd H4 D (.lst (acc ++ [y]))) else Pv (i + 1) H3) (hd : ∀ H, Pv xs.length H → Qd H) :
    ∃ W : Nat → Nat → Hp → Prop, (∃ m, W 0 m (upd H D (.lst []))) ∧ ∀ i m H, W i m H →
      ((ItZ3 K k1 k2 k3 a b c).stop i H ∧ Qd H) ∨ ((ItZ3 K k1 k2 k3 a b c).go i H ∧ ∃ Nx : Hp → Prop, (∀ H', Nx H' → ∃ m', m' < m ∧ W (i + 1) m' H') ∧ ∀ x H', (ItZ3 K k1 k2 k3 a b c).yld i H x H' → g x (wipe σ vs) H' fun σ2 H2 => wipe σ2 vs = wipe σ vs ∧ tt σ2 H2 fun b H3 =>
        if b = true then te σ2 H3 fun y H4 => ∃ acc, H4 D = some (.lst acc) ∧ acc.length < sizeLine ∧ Nx (upd H4 D (.lst (acc ++ [y]))) else Nx H3) := by
  refine ⟨fun i m H => m = xs.length - i ∧ i ≤ xs.length ∧ Pv i H, ⟨xs.length, rfl, Nat.zero_le _, h0⟩, ?_⟩
  rintro i m H ⟨rfl, hi, p⟩
  obtain ⟨qx, qy, qz⟩ := hq i H p
  by_cases hlt : i < xs.length
  · have hx : xs[i]? = some xs[i] := List.getElem?_eq_getElem hlt
    have hlt2 : i < ys.length := by omega
    have hy : ys[i]? = some ys[i] := List.getElem?_eq_getElem hlt2
    have hlt3 : i < zs.length := by omega
    have hz : zs[i]? = some zs[i] := List.getElem?_eq_getElem hlt3
    refine .inr ⟨⟨xs, ys, zs, _, _, _, qx, qy, qz, hx, hy, hz⟩, Pv (i + 1), fun H' p' => ⟨xs.length - (i + 1), by omega, rfl, hlt, p'⟩, fun v H' y => ?_⟩
    obtain ⟨T, x', y', z', rfl, hT, rfl, f1, f2, f3⟩ := y
    exact hs i x' y' z' T _ (f1 xs qx) (f2 ys qy) (f3 zs qz) p hT
  · have e : i = xs.length := by omega
    subst e
    exact .inl ⟨⟨xs, ys, zs, qx, qy, qz, rfl, hl.symm, hl2.symm⟩, hd H p⟩
end
end Yk

set_option maxHeartbeats 1000000
/-! zip of two (lists or tuples), a list, a tuple walked to the end while an exception is handled. -/
namespace Yk
open PySem PySem.Spec PyProof.Rows L2 L2H HotX
section
variable {prog : Program} {w : World} {A : Around} {E : Value → Shared → Prop} {s : Shared}
theorem hot_keep {x1 : Addr} {h h' : Heap} (hot : HotAt A x1 h) (k : ∀ o, h.get? x1 = some o → h'.get? x1 = some o) : HotAt A x1 h' := by
  obtain ⟨hh, o, vs, h1, d1, c1⟩ := hot
  exact ⟨hh, o, vs, k _ h1, d1, c1⟩
/-- a StopIteration is made and raised -/
theorem stop_hot {α : Type} {x1 : Addr} {Q : α → Shared → Prop} (hot : HotAt A x1 s.heap)
    (hE : ∀ h' e, (∀ b o, s.heap.get? b = some o → h'.get? b = some o) → (∃ o, h'.get? e = some o ∧ o.cls = .type "StopIteration") → E (.ref e) { s with heap := h' }) :
    wpAny (model prog w) A (newExc (.type "StopIteration") [] >>= fun e => (raiseNew e : Sem α)) Q E s := by
  refine wpAny_bind ?_
  simp only [newExc, newTuple]
  refine wpAny_bind (wpAny_newObj_type ?_ (by size_fits))
  refine wpAny_bind (m := firstArgMember _ _) (wpAny_of_eq (a := Value.none) (by first | rfl | (simp only [firstArgMember]; rfl)) (wpAny_newObj_type ?_ (by size_fits)))
  have up : ∀ {b : Addr} {o u v : Obj}, s.heap.get? b = some o → ((s.heap.push u).push v).get? b = some o := fun e => Heap.get?_push_of_some _ (Heap.get?_push_of_some _ e)
  obtain ⟨hh, o1, vs1, h1, d1, c1⟩ := hot
  refine raiseNew_hot ⟨hh, o1, vs1, up h1, d1, c1⟩ (Nat.ne_of_lt (Heap.lt_size (Heap.get?_push_of_some _ h1))) (Heap.get?_push_size _ rfl) rfl (by first | (simp; done) | (simp; omega)) ?_
  refine hE _ _ (fun b ob e => ?_) ⟨_, Heap.get?_update_self _ (Heap.get?_push_size _ rfl) rfl, rfl⟩
  rw [Heap.get?_update_other _ _ (Nat.ne_of_gt (Heap.lt_size (Heap.get?_push_of_some _ e)))]
  exact up e
theorem endTup_hot {it l x1 : Addr} {i : Nat} {items : Array Value} {Q : Fin → Shared → Prop} (hot : HotAt A x1 s.heap) (hne : x1 ≠ it) (hit : s.heap.IsTupleIter it l i) (hl : s.heap.IsTuple l items) (hx : items[i]? = none)
    (hE : ∀ h' e, Heap.ExtBut it s.heap h' → (∃ o, h'.get? e = some o ∧ o.cls = .type "StopIteration") → E (.ref e) { s with heap := h' }) : wpAny (model prog w) A (Builtin.«tuple_iterator.__next__» ⟨[.ref it], []⟩) Q E s := by
  obtain ⟨o, ho, hc, hd⟩ := id hit
  obtain ⟨ol, hol, _, nl, hdl⟩ := hl
  show wpAny _ _ (field (.ref it) 0 >>= _) _ _ s
  refine wpAny_bind (wpAny_field ho hd (x := .ref l) rfl ?_)
  show wpAny _ _ (ite _ _ _) _ _ s
  rw [if_neg (show ¬ ((Value.ref l == Value.none) = true) from Bool.false_ne_true)]
  show wpAny _ _ (field (.ref it) 1 >>= _) _ _ s
  refine wpAny_bind (wpAny_field ho hd (x := .int i 0) rfl ?_)
  show wpAny _ _ (seqItems? (.ref l) >>= _) _ _ s
  refine wpAny_bind (wpAny_seqItems hol hdl ?_)
  simp only [Int.toNat_natCast, hx]
  refine wpAny_bind (wpAny_rule (wpAny_bind (wpAny_setField ho hd (by simp) (stop_hot (hot_keep hot fun o1 e1 => ?_) fun h' e k c => hE h' e (fun b ob hb q => k b ob (Heap.SameBut.extBut (Heap.SameBut.update ..) b ob hb q)) c))))
  rw [Heap.get?_update_other _ _ hne.symm]
  exact e1
theorem nextTup_hot {it l x1 : Addr} {i : Nat} {items : Array Value} {Q : Value → Shared → Prop} (hot : HotAt A x1 s.heap) (hne : x1 ≠ it) (hit : s.heap.IsTupleIter it l i) (hl : s.heap.IsTuple l items) (hx : items[i]? = none)
    (hE : ∀ h' e, Heap.ExtBut it s.heap h' → (∃ o, h'.get? e = some o ∧ o.cls = .type "StopIteration") → E (.ref e) { s with heap := h' }) : wpAny (model prog w) A (Builtin.SmallTypes.nextOf (.ref it)) Q E s := by
  unfold Builtin.SmallTypes.nextOf
  exact wpAny_bind (wpAny_callSpecial?_slot (name := Str.ofString "__next__") hit.typeIs F.slot_tuple_iterator_next (wpAny_call_entry F.slot_tuple_iterator_next hit.typeIs F.entry_tuple_iterator_next (endTup_hot (A := A.in1) hot hne hit hl hx hE) (F.args_tuple_iterator_next_1 _)))
theorem pyNextTup_hot {it l x1 : Addr} {i : Nat} {items : Array Value} {Q : Option Value → Shared → Prop} (hot : HotAt A x1 s.heap) (hne : x1 ≠ it) (hit : s.heap.IsTupleIter it l i) (hl : s.heap.IsTuple l items) (hx : items[i]? = none)
    (hQ : ∀ h', Heap.ExtBut it s.heap h' → Q none { s with heap := h' }) : wpAny (model prog w) A (pyNext (.ref it)) Q E s := by
  unfold pyNext
  refine wpAny_bind (wpAny_attempt (wpAny_callSpecial?_slot (name := Str.ofString "__next__") hit.typeIs F.slot_tuple_iterator_next (wpAny_call_entry F.slot_tuple_iterator_next hit.typeIs F.entry_tuple_iterator_next (endTup_hot (A := A.in1) hot hne hit hl hx fun h' e k c => ?_) (F.args_tuple_iterator_next_1 _))))
  obtain ⟨o, ho, hc⟩ := c
  exact wpAny_bind (wpAny_isInstance (T := "StopIteration") (b := true) ⟨o, ho, hc⟩ isSubtype_stop (wpAny_pure (hQ _ k)))
theorem endLst_hot {it l x1 : Addr} {i : Nat} {items : Array Value} {Q : Fin → Shared → Prop} (hot : HotAt A x1 s.heap) (hne : x1 ≠ it) (hit : s.heap.IsListIter it l i) (hl : s.heap.IsList l items) (hx : items[i]? = none)
    (hE : ∀ h' e, Heap.ExtBut it s.heap h' → (∃ o, h'.get? e = some o ∧ o.cls = .type "StopIteration") → E (.ref e) { s with heap := h' }) : wpAny (model prog w) A (Builtin.«list_iterator.__next__» ⟨[.ref it], []⟩) Q E s := by
  obtain ⟨o, ho, hc, hd⟩ := id hit
  obtain ⟨ol, hol, _, nl, hdl⟩ := hl
  show wpAny _ _ (field (.ref it) 0 >>= _) _ _ s
  refine wpAny_bind (wpAny_field ho hd (x := .ref l) rfl ?_)
  show wpAny _ _ (ite _ _ _) _ _ s
  rw [if_neg (show ¬ ((Value.ref l == Value.none) = true) from Bool.false_ne_true)]
  show wpAny _ _ (field (.ref it) 1 >>= _) _ _ s
  refine wpAny_bind (wpAny_field ho hd (x := .int i 0) rfl ?_)
  show wpAny _ _ (seqItems? (.ref l) >>= _) _ _ s
  refine wpAny_bind (wpAny_seqItems hol hdl ?_)
  simp only [Int.toNat_natCast, hx]
  refine wpAny_bind (wpAny_rule (wpAny_bind (wpAny_setField ho hd (by simp) (stop_hot (hot_keep hot fun o1 e1 => ?_) fun h' e k c => hE h' e (fun b ob hb q => k b ob (Heap.SameBut.extBut (Heap.SameBut.update ..) b ob hb q)) c))))
  rw [Heap.get?_update_other _ _ hne.symm]
  exact e1
theorem nextLst_hot {it l x1 : Addr} {i : Nat} {items : Array Value} {Q : Value → Shared → Prop} (hot : HotAt A x1 s.heap) (hne : x1 ≠ it) (hit : s.heap.IsListIter it l i) (hl : s.heap.IsList l items) (hx : items[i]? = none)
    (hE : ∀ h' e, Heap.ExtBut it s.heap h' → (∃ o, h'.get? e = some o ∧ o.cls = .type "StopIteration") → E (.ref e) { s with heap := h' }) : wpAny (model prog w) A (Builtin.SmallTypes.nextOf (.ref it)) Q E s := by
  unfold Builtin.SmallTypes.nextOf
  exact wpAny_bind (wpAny_callSpecial?_slot (name := Str.ofString "__next__") hit.typeIs slot_listiter_next (wpAny_call_entry slot_listiter_next hit.typeIs entry_listiter_next (endLst_hot (A := A.in1) hot hne hit hl hx hE) (args_listiter_next _)))
theorem pyNextLst_hot {it l x1 : Addr} {i : Nat} {items : Array Value} {Q : Option Value → Shared → Prop} (hot : HotAt A x1 s.heap) (hne : x1 ≠ it) (hit : s.heap.IsListIter it l i) (hl : s.heap.IsList l items) (hx : items[i]? = none)
    (hQ : ∀ h', Heap.ExtBut it s.heap h' → Q none { s with heap := h' }) : wpAny (model prog w) A (pyNext (.ref it)) Q E s := by
  unfold pyNext
  refine wpAny_bind (wpAny_attempt (wpAny_callSpecial?_slot (name := Str.ofString "__next__") hit.typeIs slot_listiter_next (wpAny_call_entry slot_listiter_next hit.typeIs entry_listiter_next (endLst_hot (A := A.in1) hot hne hit hl hx fun h' e k c => ?_) (args_listiter_next _))))
  obtain ⟨o, ho, hc⟩ := c
  exact wpAny_bind (wpAny_isInstance (T := "StopIteration") (b := true) ⟨o, ho, hc⟩ isSubtype_stop (wpAny_pure (hQ _ k)))
theorem unpackTup_hot {t x1 : Addr} {items : Array Value} {Q : List Value → Shared → Prop} (hot : HotAt A x1 s.heap) (ht : s.heap.IsTuple t items)
    (hQ : ∀ h', Heap.ExtBut s.heap.objs.size s.heap h' → Q items.toList { s with heap := h' }) : wpAny (model prog w) A (unpackItems (.ref t) items.size none) Q E s := by
  have hlt : t ≠ s.heap.objs.size := by obtain ⟨o, ho, _⟩ := ht; exact Nat.ne_of_lt (Heap.lt_size ho)
  have hx1 : x1 ≠ s.heap.objs.size := by obtain ⟨_, o, _, ho, _⟩ := hot; exact Nat.ne_of_lt (Heap.lt_size ho)
  unfold unpackItems notIterableAtAll
  refine wpAny_bind (wpAny_bind (wpAny_specialOf ht.typeIs F.slot_tuple_iter.lookup (wpAny_pure ?_)))
  simp only [Bool.false_eq_true, if_false]
  refine wpAny_bind (wpAny_holding (wpAny_pyIter_tuple ht (wpAny_bind (wpAny_holding (wpAny_draw_tuple hlt items.size 0 _ _ ⟨_, Heap.get?_push_size _ rfl, rfl, rfl⟩ (ht.push _) (by omega) fun h₁ hit₁ hs₁ => ?_)))))
  rw [show List.take items.size (List.drop 0 items.toList) = items.toList by rw [List.drop_zero]; exact List.take_of_length_le (by simp), if_neg (by simp)]
  refine wpAny_bind (wpAny_holding (pyNextTup_hot (hot_keep hot fun o e => hs₁.extBut _ _ hx1 (Heap.get?_push_of_some _ e)) hx1 hit₁ ((ht.push _).extBut hs₁.extBut hlt) (by simp) fun h₂ he₂ => ?_))
  simp only [Option.isSome_none, Bool.false_eq_true, if_false]
  exact wpAny_pure (hQ h₂ fun b o hb e => he₂ b o hb (hs₁.extBut b o hb (Heap.get?_push_of_some _ e)))
theorem assignTup_hot {env : Env} {elts : List Expr} {k} {pos : Pos} {t x1 : Addr} {items : Array Value} {Q : Unit → Shared → Prop} (hot : HotAt A x1 s.heap) (ht : s.heap.IsTuple t items)
    (hn : (assignEach elts env).length = items.size) (hstar : (assignEach elts env).findIdx? (·.1) = none)
    (h : ∀ h', Heap.ExtBut s.heap.objs.size s.heap h' → wpAny (model prog w) A (assignInOrder ((assignEach elts env).map (·.2)) items.toList) Q E { s with heap := h' }) :
    wpAny (model prog w) A (assign (.Tuple elts k pos) env (.ref t)) Q E s := by
  rw [arm_assign_Tuple]
  refine wpAny_bind (wpAny_standAt ?_)
  unfold unpack
  rw [hn, hstar]
  exact wpAny_bind (wpAny_holding (unpackTup_hot hot ht h))
end
theorem walksH {prog : Program} {w : World} {A : Around} {x1 : Addr} (I l : Addr) (hne : l ≠ I) (hx : x1 ≠ I) (items : Array Value) :
    Walks prog w A I [I, l, x1] [I] items.size (fun i v => items[i]? = some v) (fun i h => h.IsListIter I l i ∧ h.IsList l items ∧ HotAt A x1 h) where
  sub := fun b hb => by simp at hb; simp [hb]
  frame := fun _ _ _ st hk => ⟨st.1.at fun o e => hk I (by simp) o e, st.2.1.at fun o e => hk l (by simp) o e, hot_keep st.2.2 fun o e => hk x1 (by simp) o e⟩
  item := fun i s Q E hi st hQ => wpAny_pyNext_list_item st.1 st.2.1 (x := items[i]) (by simp [hi]) fun h' hit' hs' =>
    hQ _ h' s.toks (by simp [hi]) ⟨hit', st.2.1.extBut hs'.extBut hne, hot_keep st.2.2 fun o e => hs'.extBut _ _ hx e⟩ fun b o hb e => hs'.extBut b o (fun h => hb (by simp [h])) e
  done := fun s Q E st hQ => pyNextLst_hot st.2.2 hx st.1 st.2.1 (by simp) fun h' he' => hQ h' s.toks fun b o hb e => he' b o (fun h => hb (by simp [h])) e
  self := fun i s Q E st hQ => wpAny_pyIter_listiter st.1 hQ
section
variable {X : Cx}
theorem pg_tupH {es : List Expr} {k : Nat} {t : TGs} {n : Nat} {pos : Pos} (hc : HotC X) (h : PGs X es t) (hn : (assignEach es X.env).length = n := by rfl) (hst : (assignEach es X.env).findIdx? (·.1) = none := by rfl) : PG X (.Tuple es k pos) (gTup X.K n t) := by
  refine ⟨fun pins s σ H v u Q I r hw => ?_⟩
  obtain ⟨a, xs, e1, hq, hl, hw⟩ := hw
  subst e1
  cases r
  obtain ⟨its, rv, ht, hz⟩ := I.tuple hq
  obtain ⟨x1, hot⟩ := hc.at I
  exact assignTup_hot hot ht (by simp [hn, ← hl, rv.length]) hst fun h' hx => h.run pins _ σ H xs _ Q (I.kept (t' := s.toks) fun b o e => hx b o (Nat.ne_of_lt (Heap.lt_size e)) e) (by simpa using rv) hw
theorem cr_allH (hc : HotC X) : CallR X (.builtin "all") (rAll X.K) := by
  intro pins s σ H vs us Q I r h
  obtain ⟨a, bs, rfl, hs, q⟩ := h
  obtain ⟨its, rv, hl, _⟩ := I.list hs
  rw [Vals.ref1 r]
  have hb := rv.bls
  obtain ⟨x1, hot⟩ := hc.at I
  have hx1 : x1 < s.heap.objs.size := by obtain ⟨_, o, _, ho, _⟩ := hot; exact Heap.lt_size ho
  refine call_all_walk (iter_any hl.isList fun s₂ e2 st hne => ?_)
  subst e2
  have hot2 : HotAt X.A.in1 x1 (s.heap.push { cls := .type "list_iterator", data := .fields #[.ref a, .int 0 0] }) := hot_keep (A := X.A.in1) (h := s.heap) hot fun o e => Heap.get?_push_of_some _ e
  refine ⟨_, _, _, _, _, _, _, rfl, walksH (A := X.A.in1) _ a hne (Nat.ne_of_lt hx1) its.toArray, ⟨st.1, st.2, hot2⟩, truth_bools hb, fun h' tk hk => ?_⟩
  refine ⟨.bl _, H, I.kept fun b o eo => hk b o (fun hmem => ?_) (Heap.get?_push_of_some _ eo), ?_, q⟩
  · rcases List.mem_cons.mp hmem with e1 | hmem
    · exact absurd (e1 ▸ Heap.lt_size eo) (Nat.lt_irrefl _)
    · cases hmem
  · show Value.bool _ = Value.bool _
    rw [← L2.all_range, hb, List.size_toArray, List.length_map]
end
end Yk

set_option maxHeartbeats 1000000
namespace Yk
open PySem PySem.Spec PyProof.Rows L2 L2H HotX
/-- what a list or a tuple draws there -/
theorem drawsH {prog : Program} {w : World} {A : Around} {x1 : Addr} (k : Bool) (it l : Addr) (hne : l ≠ it) (hx : x1 ≠ it) (items : Array Value) :
    Draws prog w A it [it, l, x1] items.size (fun i v => items[i]? = some v) (fun i h => ItB k h it l i ∧ SeB k h l items ∧ HotAt A x1 h) where
  live := fun _ _ st => let ⟨o, ho, _⟩ := st.1.ob; ⟨o, ho⟩
  frame := fun i h h' st hk => ⟨st.1.at_ fun o e => hk it (by simp) o e, by
    have hs := st.2.1
    cases k with
    | true => exact Heap.IsList.at hs fun o e => hk l (by simp) o e
    | false => exact Heap.IsTuple.at hs fun o e => hk l (by simp) o e, hot_keep st.2.2 fun o e => hk x1 (by simp) o e⟩
  item := fun i s Q E hi st hQ => by
    obtain ⟨a, b, c⟩ := st
    cases k with
    | true => exact wpAny_nextOf_list_item a b (x := items[i]) (by simp [hi]) fun h' hit' hs' => hQ _ h' s.toks (by simp [hi]) ⟨hit', Heap.IsList.extBut b hs'.extBut hne, hot_keep c fun o e => hs'.extBut _ _ hx e⟩ hs'
    | false => exact wpAny_nextOf_tuple_item a b (x := items[i]) (by simp [hi]) fun h' hit' hs' => hQ _ h' s.toks (by simp [hi]) ⟨hit', Heap.IsTuple.extBut b hs'.extBut hne, hot_keep c fun o e => hs'.extBut _ _ hx e⟩ hs'
  done := fun s Q E st hE => by
    obtain ⟨a, b, c⟩ := st
    cases k with
    | true => exact nextLst_hot c hx a b (by simp) hE
    | false => exact nextTup_hot c hx a b (by simp) hE
/-- two as they stand at each turn, the items in new pairs -/
def ItZ2 (K : PySem.W.Frag) (k1 k2 : Bool) (a b : Addr) : It :=
  ⟨fun i H => ∃ (xs ys : List V) (x y : V), SqB K k1 H a xs ∧ SqB K k2 H b ys ∧ xs[i]? = some x ∧ ys[i]? = some y,
    fun i H v H' => ∃ T x y, v = .ref T ∧ H T = none ∧ H' = upd H T (.tup [x, y]) ∧ (∀ xs, SqB K k1 H a xs → xs[i]? = some x) ∧ ∀ ys, SqB K k2 H b ys → ys[i]? = some y,
    fun i H => ∃ xs ys : List V, SqB K k1 H a xs ∧ SqB K k2 H b ys ∧ xs.length = i ∧ ys.length = i⟩
structure Z2Apart (z TI TO i1 i2 a b : Addr) : Prop where
  nd : [z, TI, TO, i1, i2].Nodup
  a : a ∉ [z, TI, TO, i1, i2]
  b : b ∉ [z, TI, TO, i1, i2]
theorem Z2Apart.sep {z TI TO i1 i2 a b x1 : Addr} (D : Z2Apart z TI TO i1 i2 a b) (hx : x1 ∉ [z, TI, TO, i1, i2]) : ZipSep2 z TI TO i1 i2 [i1, a, x1] [i2, b, x1] := by
  have h := D.nd
  have ha := D.a
  have hb := D.b
  simp only [List.nodup_cons, List.mem_cons, List.not_mem_nil, or_false, not_or] at h ha hb hx
  constructor <;> (try simp only [List.mem_cons, List.not_mem_nil, or_false, not_or, true_or]) <;> grind
theorem turn_z2H {P : Program} {w : World} {K : PySem.W.Frag} {elts : List Expr} {kk : Nat} {tpos : Pos} {k1 k2 : Bool} {a b z TI TO i1 i2 : Addr} (D : Z2Apart z TI TO i1 i2 a b) :
    TurnH P w K (.Tuple elts kk tpos) (ItZ2 K k1 k2 a b) [z, TI, TO, i1, i2] z (fun i h => IsZip h z TI TO .none ∧ IsTupOf2 h TI (.ref i1) (.ref i2) ∧ (∃ x y, IsTupOf2 h TO x y) ∧ ItB k1 h i1 a i ∧ ItB k2 h i2 b i) where
  mem := by simp
  obj := fun i h st d hd => by
    obtain ⟨hz, hTI, ⟨x, y, hTO⟩, h1, h2⟩ := st
    have e' : d = z ∨ d = TI ∨ d = TO ∨ d = i1 ∨ d = i2 := by simpa using hd
    rcases e' with q | q | q | q | q
    · rw [q]; exact ⟨_, hz, fun v q => nomatch q⟩
    · rw [q]; exact ⟨_, hTI, fun v q => nomatch q⟩
    · rw [q]; exact ⟨_, hTO, fun v q => nomatch q⟩
    · rw [q]; exact h1.ob
    · rw [q]; exact h2.ob
  keep := fun i h h' st k => by
    obtain ⟨hz, hTI, ⟨x, y, hTO⟩, h1, h2⟩ := st
    exact ⟨k z (by simp) _ hz, k TI (by simp) _ hTI, ⟨x, y, k TO (by simp) _ hTO⟩, h1.at_ fun o q => k i1 (by simp) o q, h2.at_ fun o q => k i2 (by simp) o q⟩
  item := by
    intro X hP hw hK hc i pins s σ H E I hf st hg
    subst hP hw hK
    obtain ⟨hz, hTI, ⟨x0, y0, hTO⟩, h1, h2⟩ := st
    obtain ⟨xs, ys, x, y, hqx, hqy, hx, hy⟩ := hg
    obtain ⟨its, rv, p, la⟩ := seB_of I hqx
    obtain ⟨its2, rv2, p2, lb⟩ := seB_of I hqy
    obtain ⟨u, hu, ru⟩ := rv.get hx
    obtain ⟨u2, hu2, ru2⟩ := rv2.get hy
    obtain ⟨q, ⟨hh, vs1, d1, c1⟩, hq⟩ := hc
    have hx1 : q.1 ∉ [z, TI, TO, i1, i2] := fun m => (hf q.1 m).2.2.2.2.2 q (List.mem_append_left _ hq) rfl
    have hot : HotAt X.A.in1 q.1 s.heap := ⟨hh, q.2, vs1, (I.pin q (List.mem_append_left _ hq)).1, d1, c1⟩
    have S := D.sep hx1
    have lt1 : i < its.toArray.size := by simpa using (List.getElem?_eq_some_iff.mp hu).1
    have lt2 : i < its2.toArray.size := by simpa using (List.getElem?_eq_some_iff.mp hu2).1
    have na : a ≠ i1 := fun q => D.a (by rw [q]; simp)
    have nb : b ≠ i2 := fun q => D.b (by rw [q]; simp)
    have nx1 : q.1 ≠ i1 := fun z => hx1 (by rw [z]; simp)
    have nx2 : q.1 ≠ i2 := fun z => hx1 (by rw [z]; simp)
    have hzl : z < s.heap.objs.size := Heap.lt_size hz
    refine wpAny_pyNext_zipD2_item S (drawsH k1 i1 a na nx1 its.toArray) (drawsH k2 i2 b nb nx2 its2.toArray) hz hTI hTO ⟨h1, p, hot⟩ ⟨h2, p2, hot⟩ lt1 lt2 fun x1 x2 h' tk e1 e2 z' TO' s1 s2 hT hsz hk => ?_
    have f1 : x1 = u := by
      have e1 : its[i]? = some x1 := by simpa using e1
      rw [hu] at e1
      exact (Option.some.inj e1).symm
    have f2 : x2 = u2 := by
      have e2 : its2[i]? = some x2 := by simpa using e2
      rw [hu2] at e2
      exact (Option.some.inj e2).symm
    subst f1 f2
    refine ⟨_, rfl, wpAny_letOwnedTupleGo_zip (s := { s with heap := h', toks := tk }) z' fun h'' z'' sb => ?_⟩
    have hT2 : h''.get? s.heap.objs.size = some { cls := .type "tuple", data := .seq #[x1, x2] } := (sb.2 _ (Nat.ne_of_gt hzl)).trans hT
    have new : ObjOk X.prog X.w (upd H s.heap.objs.size (.tup [x, y])) h'' s.heap.objs.size (.tup [x, y]) :=
      ⟨by show 2 ≤ sizeLine; decide, [x1, x2], .cons ru (.cons ru2 .nil), ⟨_, hT2, rfl, _, rfl⟩⟩
    have I1 : Inv X pins σ (upd H s.heap.objs.size (.tup [x, y])) { s with heap := h'', toks := tk } :=
      I.turnedNew (t' := tk) (ch := [z, TI, TO, i1, i2]) (fun d o hb q => (sb.2 d (fun q' => hb (by simp [q']))).trans (hk d o (fun q' => hb (by simp [q'])) (fun q' => hb (by simp [q'])) (fun q' => hb (by simp [q'])) (fun q' => hb (by simp [q'])) q)) hf (Nat.le_refl _) new
    refine ⟨.ref s.heap.objs.size, _, I1, rfl, ⟨_, x, y, rfl, I.hok.fresh (Nat.le_refl _), rfl, fun l hl => by rw [sqB_inj I hqx hl]; exact hx, fun l hl => by rw [sqB_inj I hqy hl]; exact hy⟩, ⟨z'', ?_, ⟨x1, x2, ?_⟩, ?_, ?_⟩, fun d hd => ?_⟩
    · exact (sb.2 _ S.TIz).trans (hk _ _ S.TIz S.TITO S.TIi1 S.TIi2 hTI)
    · exact (sb.2 _ S.TOz).trans TO'
    · exact s1.1.at_ fun o q => (sb.2 _ (S.zi1.symm)).trans q
    · exact s2.1.at_ fun o q => (sb.2 _ (S.zi2.symm)).trans q
    · have hlt : d < s.heap.objs.size := by
        have e' : d = z ∨ d = TI ∨ d = TO ∨ d = i1 ∨ d = i2 := by simpa using hd
        rcases e' with q | q | q | q | q
        · rw [q]; exact hzl
        · rw [q]; exact Heap.lt_size hTI
        · rw [q]; exact Heap.lt_size hTO
        · rw [q]; obtain ⟨_, e, _⟩ := h1.ob; exact Heap.lt_size e
        · rw [q]; obtain ⟨_, e, _⟩ := h2.ob; exact Heap.lt_size e
      rw [upd_ne (Nat.ne_of_lt hlt)]
      exact (hf d hd).1
  done := by
    intro X hP hw hK hc i pins s σ H E I hf st hg
    subst hP hw hK
    obtain ⟨hz, hTI, ⟨x0, y0, hTO⟩, h1, h2⟩ := st
    obtain ⟨xs, ys, hqx, hqy, e1, e2⟩ := hg
    obtain ⟨its, rv, p, la⟩ := seB_of I hqx
    obtain ⟨its2, rv2, p2, lb⟩ := seB_of I hqy
    obtain ⟨q, ⟨hh, vs1, d1, c1⟩, hq⟩ := hc
    have hx1 : q.1 ∉ [z, TI, TO, i1, i2] := fun m => (hf q.1 m).2.2.2.2.2 q (List.mem_append_left _ hq) rfl
    have hot : HotAt X.A.in1 q.1 s.heap := ⟨hh, q.2, vs1, (I.pin q (List.mem_append_left _ hq)).1, d1, c1⟩
    have S := D.sep hx1
    have l1 : i = its.toArray.size := by have := rv.length; simp; omega
    have l2 : i = its2.toArray.size := by have := rv2.length; simp; omega
    have na : a ≠ i1 := fun q => D.a (by rw [q]; simp)
    have nb : b ≠ i2 := fun q => D.b (by rw [q]; simp)
    have nx1 : q.1 ≠ i1 := fun z => hx1 (by rw [z]; simp)
    have nx2 : q.1 ≠ i2 := fun z => hx1 (by rw [z]; simp)
    exact wpAny_pyNext_zipD2_end S (drawsH k1 i1 a na nx1 its.toArray) (drawsH k2 i2 b nb nx2 its2.toArray) hz hTI hTO ⟨h1, p, hot⟩ ⟨h2, p2, hot⟩ (Nat.le_of_eq l1) (Nat.le_of_eq l2) (.inl l1) fun h' tk hk =>
      ⟨rfl, I.turnedL (t' := tk) (ch := [z, TI, TO, i1, i2]) (fun d o hb q => hk d o (fun q' => hb (by simp [q'])) (fun q' => hb (by simp [q'])) (fun q' => hb (by simp [q'])) (fun q' => hb (by simp [q'])) q) hf⟩
  self := fun A i s Q E st h => wpAny_pyIter_zip st.1 h
def iZip2 (K : PySem.W.Frag) (ta : TA) : TI := fun σ H R => ta σ H fun vs H1 => ∃ (k1 k2 : Bool) (a b : Addr) (xs ys : List V), vs = [.ref a, .ref b] ∧ SqB K k1 H1 a xs ∧ SqB K k2 H1 b ys ∧ R (ItZ2 K k1 k2 a b) H1
theorem z2_apart (I l1 l2 : Nat) (h1 : l1 < I) (h2 : l2 < I) : Z2Apart (I + 4) (I + 2) (I + 3) I (I + 1) l1 l2 := by
  constructor <;> (first | simp | skip) <;> (try refine ⟨?_, ?_⟩) <;> grind
theorem pi_zip2H {X : Cx} {e e2 : Expr} {ta : TA} {p pos tpos : Pos} {elts : List Expr} {kk : Nat} (hg : Gl X "zip") (hm : X.mg "zip" = none) (ha : PA X [e, e2] ta)
    (hs : starEach [e, e2] X.env = (false, eval e X.env) :: starEach [e2] X.env := by rfl) (hpl : (backTo pos (starEach [e2] X.env)).any (·.1) = false := by rfl) :
    PIH X (.Tuple elts kk tpos) (.Call (.Name "zip" p) [e, e2] [] pos) (iZip2 X.K ta) := by
  refine ⟨fun pins s σ H R I h => ?_⟩
  refine Call_ (ld_blt I hg hm PyProof.Rows.boot_zip (PyProof.Rows.callWith_type1 (thn (ha.run pos pins s σ H _ I h) fun us s1 ⟨vs, H1, I1, r1, q1⟩ => ?_) hs hpl))
  obtain ⟨k1, k2, a, b, xs, ys, ex, hqx, hqy, q⟩ := q1
  subst ex
  cases r1 with
  | cons r rr =>
    cases rr with
    | cons r' rr =>
      cases rr
      cases r
      cases r'
      have fresh5 : ∀ d, d ∈ [s1.heap.objs.size + 4, s1.heap.objs.size + 2, s1.heap.objs.size + 3, s1.heap.objs.size, s1.heap.objs.size + 1] → FpOk X pins H1 d := fun d hd => by
        have hle : s1.heap.objs.size ≤ d := by
          simp only [List.mem_cons, List.not_mem_nil, or_false] at hd
          rcases hd with z | z | z | z | z <;> rw [z] <;> omega
        exact I1.fpOk hle (I1.hok.fresh hle)
      obtain ⟨its, rv, p1, la⟩ := seB_of I1 hqx
      obtain ⟨its2, rv2, p2, lb⟩ := seB_of I1 hqy
      refine zip_begins2 (beginsB k1 a its.toArray) (beginsB k2 b its2.toArray) p1 p2 fun h' hz hTI hTO h1 h2 hsz hk => wpAny_pyIter_zip hz ?_
      have I2 : Inv X pins σ H1 { s1 with heap := h' } := I1.kept (t' := s1.toks) hk
      exact ⟨s1.heap.objs.size + 4, [s1.heap.objs.size + 4, s1.heap.objs.size + 2, s1.heap.objs.size + 3, s1.heap.objs.size, s1.heap.objs.size + 1], _, _, H1, rfl, I2, turn_z2H (z2_apart s1.heap.objs.size a b la lb), ⟨hz, hTI, ⟨_, _, hTO⟩, itB_new h1, itB_new h2⟩, fresh5, q⟩
end Yk

set_option maxHeartbeats 1000000
/-! A comprehension while an exception is handled; defs that are called there. -/
namespace Yk
open PySem PySem.Spec PyProof.Rows L2 L2H HotX
/-- a block's context there: it bears the handled exception too -/
abbrev blkH (X : Cx) (s : Shared) (H : Hp) (scope : Scope) (cenv : Env) (fp : List Addr) : Cx := { X.blk s H scope cenv fp with pn := X.pn }
theorem inv_blkH {X : Cx} {pins : List (Addr × Obj)} {σ σ' : L2.St} {H : Hp} {s s' : Shared} {scope : Scope} {cenv : Env} {fp : List Addr} (I : Inv X pins σ H s) (J : Inv (X.blk s H scope cenv fp) [] σ' H s')
    (k : ∀ b o, s.heap.get? b = some o → s'.heap.get? b = some o) (hL : s.heap.objs.size ≤ cenv.locals) : Inv (blkH X s H scope cenv fp) [] σ' H s' := by
  refine ⟨⟨J.ok.mod, J.ok.kind, J.ok.glob, J.ok.blt, J.ok.above, J.ok.inj, J.ok.has, J.ok.cab, J.ok.hd, J.ok.frames, J.ok.stk, J.ok.exf, J.ok.bs, J.ok.bsz, J.ok.noex, J.ok.exfs, J.ok.funs, J.ok.frf⟩, J.os, J.bare, J.base, J.loc, J.cell, J.free, J.freeC, fun p hp => ?_, J.hok, J.len⟩
  have hp1 : p ∈ X.pn := by simpa using hp
  obtain ⟨a, b, c, d, e⟩ := I.pin p (List.mem_append_left _ hp1)
  refine ⟨k _ _ a, b, fun z => ?_, fun z => ?_, e⟩
  · have lt := Heap.lt_size a
    rw [z] at lt
    exact absurd (Nat.lt_of_lt_of_le lt hL) (Nat.lt_irrefl _)
  · exact (List.mem_cons.mp (I.stkSub p.1 z)).elim c d
section
variable {X : Cx}
theorem lcH_core {pins : List (Addr × Obj)} {s : Shared} {σ : L2.St} {H : Hp} {Q : VK} {elt tg iter : Expr} {ifs : List Expr} {scope : Scope} {own : List (Str × Nat)} {pos pos' : Pos} {wi : TI} {g : TG} {tt : TT} {te : TE} {use : Option (Value → Sem Unit)} {Qf : Value → Shared → Prop}
    (hc : HotC X) (hN : X.N.Nodup) (I : Inv X pins σ H s) (hi : PIH X tg iter wi) (ok : BlkOk X.N X.env.scope scope own)
    (hg : ∀ (s : Shared) (H : Hp) (C : Addr) (cl : List (Str × Addr)) (fp : List Addr), PG (blkH X s H scope (compEnvC scope cl C X.env) fp) tg g) (ht : ∀ (s : Shared) (H : Hp) (C : Addr) (cl : List (Str × Addr)) (fp : List Addr), PTs (blkH X s H scope (compEnvC scope cl C X.env) fp) ifs tt)
    (he : ∀ (s : Shared) (H : Hp) (C : Addr) (cl : List (Str × Addr)) (fp : List Addr), PE (blkH X s H scope (compEnvC scope cl C X.env) fp) elt te) (hs : ∀ x, foldedSetIterable iter X.env x = pure x) (h : tLc wi g tt te (own.map (·.2)) σ H Q)
    (hRR : ∀ D C s' m H', Inv X pins σ H' s' → Q (.ref D) H' → s'.heap.Ns C m → FpOk X pins H' C → compPost (model X.prog X.w) X.A X.xe use Qf (.ref D) C (.ok .next) s') :
    wpAny (model X.prog X.w) X.A (comprehension (.ListComp elt [⟨tg, iter, ifs, 0⟩] scope pos) scope X.env pos' (newList []) false (eval iter X.env) use) Qf X.xe s := by
  have hfree : ∀ y ∈ scope.names, y.2 = .free → ∃ c, X.env.cells.lookup y.1 = some c := fun y hy e => by
    rcases ok.free y hy e with k | k
    · exact I.ok.has _ (.inl k)
    · exact I.ok.has _ (.inr k)
  refine wpAny_comprehension_free (use := use) rfl hs (closure_ok hfree) ok.kind (fun y hy e => by rw [ok.uniq y hy, e]) (thn (hi.run pins s σ H _ I h) fun xv s1 hx => thn hx fun itv s2 h2 => ?_)
  obtain ⟨it, fp, tn, J, H2, e, I2, T, st2, f2, q⟩ := h2
  subst e
  refine wpAny_newObj_type (newEnv_comp ?_) (by show 0 ≤ sizeLine; decide)
  generalize hD : s2.heap.objs.size = D
  have hDn : H2 D = none := I2.hok.fresh (Nat.le_of_eq hD)
  obtain ⟨W, ⟨m0, w0⟩, turn⟩ := q D hDn
  generalize hs3 : ({ s2 with heap := s2.heap.push { cls := .type "list", data := .seq ([] : List Value).toArray } } : Shared) = s3
  have h3 : s3.heap = s2.heap.push { cls := .type "list", data := .seq ([] : List Value).toArray } := by rw [← hs3]
  have I3 : Inv X pins σ (upd H2 D (.lst [])) s3 := by
    rw [← hs3]
    refine I2.laid (t' := s2.toks) (fun b o e => Heap.get?_push_of_some _ e) (Nat.le_of_eq hD) ⟨Nat.zero_le _, [], 0, .nil, ?_⟩
    rw [← hD]
    exact Heap.get?_push_size _ rfl
  have f3 : ∀ b ∈ fp, FpOk X pins (upd H2 D (.lst [])) b ∧ b < s3.heap.objs.size := fun b hb => by
    have hlt : b < s2.heap.objs.size := by
      obtain ⟨o, e, _⟩ := T.obj _ _ st2 b hb
      exact Heap.lt_size e
    refine ⟨⟨?_, (f2 b hb).2⟩, by rw [h3, Heap.size_push]; exact Nat.lt_succ_of_lt hlt⟩
    rw [upd_ne (by rw [← hD]; exact Nat.ne_of_lt hlt)]
    exact (f2 b hb).1
  have st3 : tn 0 s3.heap := T.keep _ _ _ st2 fun b _ o e => by rw [h3]; exact Heap.get?_push_of_some _ e
  have pg := hg s3 (upd H2 D (.lst [])) s3.heap.objs.size (cellsFrom (s3.heap.objs.size + 1) scope.names (cloFrom X.env.cells scope.names [])) fp
  have pt := ht s3 (upd H2 D (.lst [])) s3.heap.objs.size (cellsFrom (s3.heap.objs.size + 1) scope.names (cloFrom X.env.cells scope.names [])) fp
  have pe := he s3 (upd H2 D (.lst [])) s3.heap.objs.size (cellsFrom (s3.heap.objs.size + 1) scope.names (cloFrom X.env.cells scope.names [])) fp
  have k34 : ∀ b o, s3.heap.get? b = some o → (pushCells (s3.heap.push { cls := .type "dict", data := .dict #[] }) scope.names).get? b = some o := fun b o e => pushCells_keeps _ _ _ _ (Heap.get?_push_of_some _ e)
  have I4 := inv_blkH I3 (block_start I3 ok hN f3) k34 (Nat.le_refl _)
  show codeAny _ _ (.compStart (.ListComp elt [⟨tg, iter, ifs, 0⟩] scope pos) 0 (.ref it) (.ref D) (compEnvC scope (cellsFrom (s3.heap.objs.size + 1) scope.names (cloFrom X.env.cells scope.names [])) s3.heap.objs.size X.env)) (compPost (model X.prog X.w) X.A X.xe use Qf (.ref D) s3.heap.objs.size) { s3 with heap := pushCells (s3.heap.push { cls := .type "dict", data := .dict #[] }) scope.names }
  have nfp : ∀ b ∈ fp, (upd H2 D (.lst [])) b = none := fun b hb => (f3 b hb).1.1
  generalize hce : compEnvC scope (cellsFrom (s3.heap.objs.size + 1) scope.names (cloFrom X.env.cells scope.names [])) s3.heap.objs.size X.env = ce at I4 pg pt pe ⊢
  have cL : ce.locals = s3.heap.objs.size := by subst hce; rfl
  generalize hH3 : upd H2 D (.lst []) = H3 at I3 I4 pg pt pe w0 nfp f3
  generalize hs4 : ({ s3 with heap := pushCells (s3.heap.push { cls := .type "dict", data := .dict #[] }) scope.names } : Shared) = s4 at I4 ⊢
  have st4 : tn 0 s4.heap := T.keep _ _ _ st3 fun b _ o e => by rw [← hs4]; exact k34 _ _ e
  have hcB : HotC (blkH X s3 H3 scope ce fp) := hc
  have stat : ∀ {σ' : L2.St} {H' : Hp} {s' : Shared}, Inv (blkH X s3 H3 scope ce fp) [] σ' H' s' → (∀ b ∈ fp, H' b = none) → ∀ b ∈ fp, FpOk (blkH X s3 H3 scope ce fp) [] H' b := fun {σ' H' s'} I' hn b hb =>
    ⟨hn b hb, (I'.ok.exf b hb).1, I'.ok.exfs b hb, .inl hb, fun x c e => (I'.ok.exf b hb).2 x c e, fun p hp => (f3 b hb).1.2.2.2.2.2 p (List.mem_append_left _ (by simpa using hp))⟩
  have loop : codeAny (model X.prog X.w) X.A (.compLoop (.ListComp elt [⟨tg, iter, ifs, 0⟩] scope pos) 0 (.ref it) (.ref D) ce) (compPost (model X.prog X.w) X.A X.xe use Qf (.ref D) s3.heap.objs.size) s4 := by
    refine compLoop_any (fun n s' => ∃ i H', Inv (blkH X s3 H3 scope ce fp) [] (wipe σ (own.map (·.2))) H' s' ∧ tn i s'.heap ∧ (∀ b ∈ fp, H' b = none) ∧ W i n H') ?_ m0 ⟨0, H3, I4, st4, nfp, w0⟩
    rintro n s5 ⟨i, H5, I5, st5, n5, w5⟩
    rcases turn i n H5 w5 with ⟨stop, qq⟩ | ⟨go, Nx, hNx, step⟩
    · refine thnF (T.done (blkH X s3 H3 scope ce fp) rfl rfl rfl hcB i [] s5 _ H5 (fun _ _ => False) I5 (stat I5 n5) st5 stop) fun r s6 ⟨hr, I6⟩ => ?_
      subst hr
      have I7 : Inv X pins σ H5 s6 := I3.call' (ch := fp) I6.os I6.base I6.hok I6.bare fun b hb => ⟨(f3 b hb).1.2.2.2.1, (f3 b hb).1.2.1, (f3 b hb).1.2.2.2.2.1, (f3 b hb).1.2.2.2.2.2⟩
      have nC : H5 s3.heap.objs.size = none := by
        have z : H5 ce.locals = none := I6.free
        rw [cL] at z
        exact z
      obtain ⟨m, hn, _⟩ := I6.loc
      have hn : s6.heap.Ns ce.locals m := hn
      rw [cL] at hn
      exact hRR D s3.heap.objs.size s6 m H5 I7 qq hn (I3.fpOk (Nat.le_refl _) nC)
    · refine thnF (T.item (blkH X s3 H3 scope ce fp) rfl rfl rfl hcB i [] s5 _ H5 (fun _ _ => False) I5 (stat I5 n5) st5 go) fun r s6 ⟨u, hr, h6⟩ => ?_
      subst hr
      refine thnF h6 fun _ s7 ⟨x, H7, I7, r7, y7, st7, n7⟩ => ?_
      have I7' := I7.pinned (stat I7 n7) (T.obj _ _ st7)
      refine thnF (pg.run _ s7 _ H7 x u _ I7' r7 (step x H7 y7)) fun _ s8 ⟨σ8, H8, I8, hw8, q8⟩ => thnF (pt.run _ s8 σ8 H8 _ I8 q8) fun b s9 ⟨H9, I9, q9⟩ => ?_
      have fin : ∀ {s' : Shared} {H' : Hp}, Inv (blkH X s3 H3 scope ce fp) ([] ++ pinsAt fp s7.heap) σ8 H' s' → Nx H' → ∃ m, m < n ∧ ∃ i H', Inv (blkH X s3 H3 scope ce fp) [] (wipe σ (own.map (·.2))) H' s' ∧ tn i s'.heap ∧ (∀ b ∈ fp, H' b = none) ∧ W i m H' := fun {s' H'} I' nx => by
        obtain ⟨m', hm, w'⟩ := hNx H' nx
        have pin' : ∀ b ∈ fp, ∀ o, s7.heap.get? b = some o → s'.heap.get? b = some o ∧ H' b = none := fun b hb o e =>
          let z := I'.pin (b, o) (List.mem_append_right _ (List.mem_append_right _ (mem_pinsAt hb e)))
          ⟨z.1, z.2.1⟩
        refine ⟨m', hm, i + 1, H', (I'.unpinned (pins := [])).weak (by rw [← hw8, wipe_length]) (fun j v e => ?_), T.keep _ _ _ st7 fun b hb o e => (pin' b hb o e).1, fun b hb => ?_, w'⟩
        · rw [← hw8] at e
          exact (wipe_some e).1
        · obtain ⟨o, e, _⟩ := T.obj _ _ st7 b hb
          exact (pin' b hb o e).2
      cases b with
      | false =>
        simp only [Bool.false_eq_true, if_false] at q9 ⊢
        exact fin I9 q9
      | true =>
        simp only [if_true] at q9 ⊢
        refine thnF (pe.run _ s9 σ8 H9 _ I9 q9) fun z s10 ⟨yv, H10, I10, r10, acc, hD10, hz10, nx⟩ => ?_
        exact app_ok (X := blkH X s3 H3 scope ce fp) I10 hD10 hz10 r10 fun s11 I11 => fin I11 nx
  exact codeAny_compStart_list loop (T.self X.A 0 _ _ _ st4 loop)
theorem pe_lcH {elt tg iter : Expr} {ifs : List Expr} {scope : Scope} {own : List (Str × Nat)} {pos : Pos} {wi : TI} {g : TG} {tt : TT} {te : TE} (hc : HotC X) (hN : X.N.Nodup) (hi : PIH X tg iter wi) (ok : BlkOk X.N X.env.scope scope own)
    (hg : ∀ (s : Shared) (H : Hp) (C : Addr) (cl : List (Str × Addr)) (fp : List Addr), PG (blkH X s H scope (compEnvC scope cl C X.env) fp) tg g) (ht : ∀ (s : Shared) (H : Hp) (C : Addr) (cl : List (Str × Addr)) (fp : List Addr), PTs (blkH X s H scope (compEnvC scope cl C X.env) fp) ifs tt)
    (he : ∀ (s : Shared) (H : Hp) (C : Addr) (cl : List (Str × Addr)) (fp : List Addr), PE (blkH X s H scope (compEnvC scope cl C X.env) fp) elt te) (hs : ∀ x, foldedSetIterable iter X.env x = pure x := by intro _; rfl) :
    PE X (.ListComp elt [⟨tg, iter, ifs, 0⟩] scope pos) (tLc wi g tt te (own.map (·.2))) := by
  refine ⟨fun pins s σ H Q I h => ?_⟩
  rw [eval_ListComp]
  refine lcH_core hc hN I hi ok hg ht he hs h fun D C s' m H' I' q hn f => ⟨m, hn, fun h'' sb => ?_⟩
  obtain ⟨f0, f1, f2, f3, f4, f5⟩ := f
  exact ⟨.ref D, H', I'.turned (t' := s'.toks) (fun b o hb e => (sb.2 b hb).trans e) f0 f1 f3 f4 f5, rfl, q⟩
end
/-- a def by its name, called there -/
structure FnT (P : Program) (w : World) (K : PySem.W.Frag) (mg : Str → Option Value) (base : Heap) (k : Nat) (x : Str) (sp : Sp) : Prop where
  run : ∃ f fd ps, mg x = some (.ref f) ∧ PySem.W.keepIn K (.ref f) = true ∧ FnH P w K mg base CX0 k f fd ps sp ∧ Binds K fd ps []
section
variable {X : Cx} {k : Nat} {sp : Sp} {x : Str} {p pos : Pos} {e : Expr} {es : List Expr} {t : TA}
theorem pe_fnT (F : FnT X.prog X.w X.K X.mg X.base k x sp) (hr : RoomH k X.A) (hc : HotC X) (ha : PA X (e :: es) t) (hg : Gl X x := by rfl) (hdb : (x == ("__debug__" : Str)) = false := by decide)
    (he : starEach (e :: es) X.env = (false, eval e X.env) :: starEach es X.env := by rfl) (hpl : (backTo pos (starEach es X.env)).any (·.1) = false := by rfl) :
    PE X (.Call (.Name x p) (e :: es) [] pos) (tR sp t) := by
  obtain ⟨f, fd, ps, hm, hk, F, hb⟩ := F.run
  exact pe_callH (E := fun _ => E0) F hr hc hg hm hk hb (fun _ _ _ _ _ _ _ z => z.elim) ha hdb he hpl
end
/-- how a def of the text keeps a promise there -/
theorem fnT_def {P : Program} {w : World} {K : PySem.W.Frag} {mg : Str → Option Value} {base : Heap} {x : Str} {params : Arguments} {body : List Stmt} {scope : Scope} {f : Addr} {fd : FuncData} {N ps : List Str} {k : Nat} {sp : Sp}
    (F : FunD K x x params body scope [] [] f fd) (hm : mg x = some (.ref f)) (S : FnScope N ps scope) (len : ∀ vs H Q E, sp vs H Q E → vs.length = ps.length)
    (hb : ∀ (kV doc pm : Value) (an : Option Addr) (cdv ct : Value) (us : List Value), us.length = ps.length → bindArgs (PySem.W.fnOf x x params body scope .none kV doc pm an cdv ct) ⟨us, []⟩ = pure (ps.zip us))
    (hbody : ∀ (cdv : Value) (A : Around) (outer : List Env) (s : Shared) (H : Hp) (vs : List V) (Q : VK) (E : XK) (p : Addr × Obj), Hot1 A p → RoomH k (A.deeper (envOfC x scope s.heap.objs.size f cdv)) → sp vs H Q E →
      ∃ t, PSs (cxH CX0 P w K mg base N x scope f cdv A outer s H E p) body t ∧ t ⟨fun _ H' => Q .non H', Q, fun _ _ => False, fun _ _ => False⟩ (start N vs) H) : FnT P w K mg base (k + 1) x sp := by
  have b := F.bindsN hb
  have kp := F.kp
  obtain ⟨oc, od, dV, kV, doc, pm, an, cdv, ct, osl, rfl, lk, hcd, hD, _⟩ := F.ex
  rcases hD with ⟨_, rfl⟩ | ⟨e, _⟩
  · exact ⟨f, _, ps, hm, kp, fn_ofH lk hcd S len fun A outer s H vs Q E p hot hr h => hbody cdv A outer s H vs Q E p hot hr h, b⟩
  · exact absurd rfl e
section
variable {σ : L2.St} {H : Hp} {K : PySem.W.Frag}
theorem r_iZip2 {ta : TA} {R : It → Hp → Prop} (h : ta σ H fun vs H1 => ∃ (k1 k2 : Bool) (a b : Addr) (xs ys : List V), vs = [.ref a, .ref b] ∧ SqB K k1 H1 a xs ∧ SqB K k2 H1 b ys ∧ R (ItZ2 K k1 k2 a b) H1) : iZip2 K ta σ H R := h
/-- a comprehension over two of one length -/
theorem r_lcZ2 {k1 k2 : Bool} {a b : Addr} {xs ys : List V} {g : TG} {tt : TT} {te : TE} {vs : List Nat} {D : Addr} {Qd : Hp → Prop} (hl : xs.length = ys.length) (Pv : Nat → Hp → Prop) (h0 : Pv 0 (upd H D (.lst []))) (hq : ∀ i H, Pv i H → SqB K k1 H a xs ∧ SqB K k2 H b ys)
    (hs : ∀ (i : Nat) (x y : V) (T : Addr) (H : Hp), xs[i]? = some x → ys[i]? = some y → Pv i H → H T = none → g (.ref T) (wipe σ vs) (upd H T (.tup [x, y])) fun σ2 H2 => wipe σ2 vs = wipe σ vs ∧ tt σ2 H2 fun b H3 =>
      if b = true then te σ2 H3 fun y H4 => ∃ acc, H4 D = some (.lst acc) ∧ acc.length < sizeLine ∧ Pv (i + 1) (upd H4 D (.lst (acc ++ [y]))) else Pv (i + 1) H3) (hd : ∀ H, Pv xs.length H → Qd H) :
    ∃ W : Nat → Nat → Hp → Prop, (∃ m, W 0 m (upd H D (.lst []))) ∧ ∀ i m H, W i m H →
      ((ItZ2 K k1 k2 a b).stop i H ∧ Qd H) ∨ ((ItZ2 K k1 k2 a b).go i H ∧ ∃ Nx : Hp → Prop, (∀ H', Nx H' → ∃ m', m' < m ∧ W (i + 1) m' H') ∧ ∀ x H', (ItZ2 K k1 k2 a b).yld i H x H' → g x (wipe σ vs) H' fun σ2 H2 => wipe σ2 vs = wipe σ vs ∧ tt σ2 H2 fun b H3 =>
        if b = true then te σ2 H3 fun y H4 => ∃ acc, H4 D = some (.lst acc) ∧ acc.length < sizeLine ∧ Nx (upd H4 D (.lst (acc ++ [y]))) else Nx H3) := by
  refine ⟨fun i m H => m = xs.length - i ∧ i ≤ xs.length ∧ Pv i H, ⟨xs.length, rfl, Nat.zero_le _, h0⟩, ?_⟩
  rintro i m H ⟨rfl, hi, p⟩
  obtain ⟨qx, qy⟩ := hq i H p
  by_cases hlt : i < xs.length
  · have hx : xs[i]? = some xs[i] := List.getElem?_eq_getElem hlt
    have hlt2 : i < ys.length := by omega
    have hy : ys[i]? = some ys[i] := List.getElem?_eq_getElem hlt2
    refine .inr ⟨⟨xs, ys, _, _, qx, qy, hx, hy⟩, Pv (i + 1), fun H' p' => ⟨xs.length - (i + 1), by omega, rfl, hlt, p'⟩, fun v H' y => ?_⟩
    obtain ⟨T, x', y', rfl, hT, rfl, f1, f2⟩ := y
    exact hs i x' y' T _ (f1 xs qx) (f2 ys qy) p hT
  · have e : i = xs.length := by omega
    subst e
    exact .inl ⟨⟨xs, ys, qx, qy, rfl, hl.symm⟩, hd H p⟩
end
end Yk

set_option maxHeartbeats 1000000
/-! Errors of the text's own classes with fields: raised, caught, their fields and classes asked. -/
namespace Yk
open PySem PySem.Spec PyProof.Rows L2 L2H
/-- the class of errors at C: as a value, for making, fields and isinstance -/
structure Xc (K : PySem.W.Frag) (mg : Str → Option Value) (x : Str) (C : Addr) : Prop where
  hm : mg x = some (.ref C)
  oe : OexC K C
  xf : XfC K C
  cl : (PySem.W.clsIn K C).isSome = true
  ha : PySem.W.findIn K (.ref C) "__class__" = some (some (.builtin "object.__class__"))
  hn : PySem.W.specialIn K (.builtin "object.__class__") "__get__" = some (some (.builtin "getset_descriptor.__get__"))
  ht : PySem.W.takesIn K (.builtin "object.__class__") = some true
  ho : PySem.W.mroIn K C (.type "object") = some true
/-- its __init__ -/
structure Xi (P : Program) (w : World) (K : PySem.W.Frag) (mg : Str → Option Value) (base : Heap) (k : Nat) (x : Str) (C : Addr) (sp : Sp) : Prop where
  run : ∃ fI fd ps, mg x = some (.ref C) ∧ OexC K C ∧ PySem.W.findIn K (.ref C) "__init__" = some (some (.ref fI)) ∧ PySem.W.typeIn K (.ref fI) = some (.type "function") ∧ FnOk P w K mg base CX0 k fI fd ps sp ∧ Binds K fd ps []
/-- self.f = v, and no more -/
def spInit1 (C : Addr) (f : Str) : Sp := fun vs H Q _ => ∃ (a : Addr) (v : V), vs = [.ref a, v] ∧ H a = some (exo a C none) ∧ ∀ d, H d = none → d ≠ a → Q .non (upd (upd H d (exd d [(f, v)])) a (exo a C (some d)))
section
variable {X : Cx} {k : Nat} {C : Addr} {sp : Sp} {x m f : Str} {o e : Expr} {es : List Expr} {pos p pos2 apos : Pos} {te ta : TE} {t : TA} {W : WX} {pl : Sem Bool}
theorem mkN_oex {R : List V → Hp → XK → Prop} (Fi : Xi X.prog X.w X.K X.mg X.base k x C sp) (hr : Room (k + 1) X.A) (hg : Gl X x) (ha : PA X (e :: es) t) (hdb : (x == ("__debug__" : Str)) = false)
    (he : starEach (e :: es) X.env = (false, eval e X.env) :: starEach es X.env) (hpl : (backTo pos (starEach es X.env)).any (·.1) = false)
    (hR : ∀ vs H1 Q, R vs H1 Q → vs.length ≤ 1000 ∧ ∀ a, H1 a = none → sp (.ref a :: vs) (upd H1 a (exo a C none)) (fun v H2 => v = .non ∧ ∃ (d : Addr) (fs : List (Str × V)), H2 a = some (exo a C (some d)) ∧ H2 d = some (exd d fs) ∧ H1 d = none ∧ Q (.ref C) (some d) (upd (del H2 a) d (.xd fs))) E0) :
    L2N.PMk X (.Call (.Name x p) (e :: es) [] pos) (fun σ H Q => t σ H fun vs H1 => R vs H1 Q) := by
  obtain ⟨fI, fd, ps, hm, T, iC, tI, F1, hb⟩ := Fi.run
  intro pins s σ H Q I h
  obtain ⟨nm, q, N, bs, bm, sn, sub, ab, col, dd, k0, k1, k2, k3, k5, hC, hbm⟩ := T.cls
  refine wpAny_Call_Name_kw (ld_glob I hg hm (PySem.W.callWith_K (h₀ := X.base) I.ok.mod.kin T.kC (thn (ha.run pos pins s σ H _ I h) fun us s1 ⟨vs, H1, I1, r1, hz⟩ => ⟨I1.kIn, ?_⟩) he hpl) hdb)
  obtain ⟨hz, q1⟩ := hR _ _ _ hz
  show wpAny _ _ (call (.ref C) us) _ _ _
  obtain ⟨hp, g, dr, tk, os⟩ := s1
  have hsz : hp.objs.size ≤ hp.objs.size + 1 := Nat.le_succ _
  have hq := q1 (hp.objs.size + 1) (I1.hok.fresh hsz)
  have kk : ∀ b o, hp.get? b = some o → ((hp.push (PySem.W.kdv_tup us)).push (PySem.HandSPX.excO C hp.objs.size)).get? b = some o := fun b o e => Heap.get?_push_of_some _ (Heap.get?_push_of_some _ e)
  have hget : ((hp.push (PySem.W.kdv_tup us)).push (PySem.HandSPX.excO C hp.objs.size)).get? (hp.objs.size + 1) = some (PySem.HandSPX.excO C hp.objs.size) := by heap_get
  have I2 : Inv X pins σ (upd H1 (hp.objs.size + 1) (exo (hp.objs.size + 1) C none)) ⟨(hp.push (PySem.W.kdv_tup us)).push (PySem.HandSPX.excO C hp.objs.size), g, dr, tk, os⟩ :=
    I1.laid (t' := tk) (a := hp.objs.size + 1) (o := exo (hp.objs.size + 1) C none) (h' := (hp.push (PySem.W.kdv_tup us)).push (PySem.HandSPX.excO C hp.objs.size)) kk hsz (exo_ok hget)
  have r2 : Vals (V.ref (hp.objs.size + 1) :: vs) (Value.ref (hp.objs.size + 1) :: us) := .cons rfl r1
  have hl : (Value.ref (hp.objs.size + 1) :: us).length = ps.length := by
    have e := r2.length
    rw [F1.len _ _ _ _ hq] at e
    exact e.symm
  have hus : us.length ≤ sizeLine := by
    rw [← Paired.length r1, sizeLine_eq]
    omega
  have b := hb _ (Value.ref (hp.objs.size + 1) :: us) I2.kIn (by rw [List.append_nil]; exact hl)
  rw [List.append_nil] at b
  refine wpAny_call (PySem.HandSPX.call_own PySem.F.excBase_ValueError (fun Y => PySem.HandSPX.refsVE_contains Y bm hbm) (I1.kIn _ _ hC) (PySem.W.looks_findIn I1.kIn iC) (fun self => PySem.W.bind_fn I1.kIn self tI) hus
    (codeAny_mono (F1.run _ X.stack _ _ ⟨Value.ref (hp.objs.size + 1) :: us, []⟩ (Value.ref (hp.objs.size + 1) :: us) _ _ E0 (hr.make C us []) (I2.env0.make C us []) b r2 hq) fun r s' hq' => ?_))
  cases r with
  | error er => exact hq'.elim
  | ok fl =>
    cases fl with
    | ret u =>
      obtain ⟨v, H2, os2, bare2, un2, hok2, rv, ev, d, fs, ea, ed, hd1, q2⟩ := hq'
      subst ev
      obtain ⟨h2, g2, d2, t2, os'⟩ := s'
      obtain ⟨t0, G, J, kG, ge, hoe, na⟩ := mk_end0 (d2 := d2) (t2 := t2) I1 hsz kk un2 hok2 os2 bare2 ea ed hd1
      exact ⟨rv, _, _, _, ⟨G, g2, d2, t2, os'⟩, _, .ref C, some d, rfl, J, kG, ge, hoe, ⟨rfl, rfl, fun vs e => by cases e; rfl⟩, rfl, rfl, na, rfl, bare2, raises_own T.exC T.tyC, q2⟩
    | next => exact hq'.elim
    | brk => exact hq'.elim
    | cont => exact hq'.elim
/-- raise x(v), x an error with one field -/
def tRaise1 (C : Addr) (f : Str) (W : WX) (t : TA) : TS := fun _ σ H => t σ H fun vs H1 => ∃ v, vs = [v] ∧ ∀ d, H1 d = none → W (.ref C) (some d) σ (upd H1 d (.xd [(f, v)]))
theorem ps_raise1 (F : Xi X.prog X.w X.K X.mg X.base k x C (spInit1 C f)) (hr : Room (k + 1) X.A) (hc : X.calm = true) (tk : L2N.Takes X W) (ha : PA X (e :: es) t) (hg : Gl X x := by rfl) (hdb : (x == ("__debug__" : Str)) = false := by decide)
    (he : starEach (e :: es) X.env = (false, eval e X.env) :: starEach es X.env := by rfl) (hpl : (backTo pos (starEach es X.env)).any (·.1) = false := by rfl) :
    PS X (.Raise (some (.Call (.Name x p) (e :: es) [] pos)) none pos2) (tRaise1 C f W t) := by
  refine L2N.ps_raise (pos := pos2) hc tk (mkN_oex (pos := pos) (p := p) (R := fun vs H1 Q => ∃ v, vs = [v] ∧ ∀ d, H1 d = none → Q (.ref C) (some d) (upd H1 d (.xd [(f, v)]))) F hr hg ha hdb he hpl fun vs H1 Q q => ?_)
  obtain ⟨v, rfl, q⟩ := q
  refine ⟨by show 1 ≤ 1000; decide, fun a ha1 => ⟨a, v, rfl, upd_same, fun d hd hda => ⟨rfl, d, [(f, v)], upd_same, by rw [upd_ne hda, upd_same], by rw [upd_ne hda] at hd; exact hd, ?_⟩⟩⟩
  have hd1 : H1 d = none := by rw [upd_ne hda] at hd; exact hd
  have e0 : upd (del (upd (upd (upd H1 a (exo a C none)) d (exd d [(f, v)])) a (exo a C (some d))) a) d (.xd [(f, v)]) = upd H1 d (.xd [(f, v)]) := by
    funext b
    by_cases h1 : b = d
    · rw [h1, upd_same, upd_same]
    · rw [upd_ne h1, upd_ne h1]
      by_cases h2 : b = a
      · rw [h2, del_same, ha1]
      · rw [del_ne h2, upd_ne h2, upd_ne h1, upd_ne h2]
  rw [e0]
  exact q d hd1
end
/-! a method that may raise; try; what the suite asks -/
structure MtX (P : Program) (w : World) (K : PySem.W.Frag) (mg : Str → Option Value) (base : Heap) (k : Nat) (C : Addr) (m : Str) (sp : Sp) : Prop where
  run : ∃ f fd ps, Cls K C ∧ Meth K C m f ∧ FnOk P w K mg base (L2N.CX P w) k f fd ps sp ∧ Binds K fd ps []
section
variable {X : Cx} {k : Nat} {C D a : Addr} {sp : Sp} {x m f n : Str} {o e : Expr} {es : List Expr} {pos p pos2 apos : Pos} {te ta : TE} {t : TA} {W Wout : WX} {pl : Sem Bool} {i : Nat} {oe : Obj} {cls : Value} {d : Option Addr} {pn : List (Addr × Obj)} {tb : WX → TS} {ts : Addr → Value → Option Addr → TS}
def tMtX (C : Addr) (m : Str) (sp : Sp) (W : WX) (te : TE) (t : TA) : TE := fun σ H Q => te σ H fun x H1 => ∃ a dx fs, x = .ref a ∧ H1 a = some (.ins C dx fs) ∧ fs.lookup m = none ∧ t σ H1 fun vs H2 => sp (x :: vs) H2 Q fun cls d H3 => W cls d σ H3
theorem pe_mtX (F : MtX X.prog X.w X.K X.mg X.base k C m sp) (hr : Room k X.A) (tk : L2N.Takes X W) (he : PE X o te) (ha : PA X (e :: es) t)
    (hst : starEach (e :: es) X.env = (false, eval e X.env) :: starEach es X.env := by rfl) (hpl : (backTo pos (starEach es X.env)).any (·.1) = false := by rfl)
    (ht : eval (.Call (.Attribute o m apos) (e :: es) [] pos) X.env = (do
      let ov ← eval o X.env
      standAt apos.atName
      let (f, first) ← holding [ov] (getMethod ov m pl)
      callWith pos f first (backTo pos (starEach (e :: es) X.env)) (backToKw pos (keywordEach [] X.env))) := by rfl) :
    PE X (.Call (.Attribute o m apos) (e :: es) [] pos) (tMtX C m sp W te t) := by
  obtain ⟨f, fd, ps, c, hm, F, hb⟩ := F.run
  refine ⟨fun pins s σ H Q I h => ?_⟩
  refine PySem.W.methodCall_KW (pl := pl) (thn (he.run pins s σ H _ I h) fun u s1 ⟨x, H1, I1, rx, a, dx, fs, ex, ea, l, q⟩ => ?_) ht
  subst ex
  obtain rfl : u = Value.ref a := rx
  refine getmeth_ok I1 ea c hm l (PySem.W.callWith_K (first := [.ref a]) (h₀ := X.base) I.ok.mod.kin hm.kp (thn (ha.run pos pins s1 σ H1 _ I1 q) fun us s2 ⟨vs, H2, I2, r, q2⟩ => ⟨I2.kIn, ?_⟩) hst hpl)
  exact run_fnS (E := WE W) (us := .ref a :: us) (vs := .ref a :: vs) F hr hb (L2N.passAt tk σ) I2 (.cons rfl r) q2
theorem takesN0 : L2N.Takes X (fun _ _ _ _ => False) := fun _ _ ⟨_, _, _, _, _, _, _, _, _, _, _, _, _, _, _, _, z⟩ => z.elim
/-- the suite of an except clause bears the error -/
theorem hot_suite (hz : L2N.Zn cls d oe) (hf : ∃ vs, oe.data = .fields vs) : HotC (X.suite a ((a, oe) :: pn)) := by
  obtain ⟨vs, hv⟩ := hf
  exact ⟨(a, oe), ⟨rfl, vs, hv, hz.2.2 vs hv⟩, List.mem_cons_self⟩
/-- isinstance of the caught error, its class D, its dict told -/
def rIsX (K : PySem.W.Frag) (D a : Addr) (cls : Value) (d : Option Addr) : List V → Hp → VK → Prop := fun xs H Q => ∃ (c : V) (cv : Value) (b : Bool) (dd : Addr) (fs : List (Str × V)), xs = [.ref a, c] ∧ (∀ u, RelV c u → u = cv) ∧ PySem.W.kitOne K (.ref D) cv = some b ∧ cls = .ref D ∧ d = some dd ∧ H dd = some (.xd fs) ∧ Q (.bl b) H
theorem call_isX (Y : Xc X.K X.mg x D) (hz : L2N.Zn cls d oe) (hf : ∃ vs, oe.data = .fields vs) : CallR (X.suite a ((a, oe) :: pn)) (.builtin "isinstance") (rIsX X.K D a cls d) := by
  intro pins s σ H xs us Q I r h
  obtain ⟨c, cv, b, dd, fs, rfl, hcv, e, rfl, rfl, hd, q⟩ := h
  cases r with
  | cons rx rr =>
    cases rr with
    | cons rt rr =>
      cases rr
      cases rx
      have ec := hcv _ rt
      subst ec
      obtain ⟨hget, _⟩ := I.pin (a, oe) (List.mem_append.mpr (.inl List.mem_cons_self))
      obtain ⟨vs, hv⟩ := hf
      have hx : ObjOk X.prog X.w H s.heap dd (.xd fs) := I.hok dd _ hd
      obtain ⟨mA, hns, _⟩ := hx
      obtain ⟨od, ho, _⟩ := lookIn_ns hns
      have J : PySem.W.InstAt s.heap a oe D (some od) := ⟨hget, hz.1, by unfold PySem.W.notCls; rw [hv] <;> rfl, by rw [hz.2.1]; exact ho⟩
      exact PySem.W.kia_one (PySem.W.kitx_exc Y.cl Y.xf.ga Y.xf.gg Y.xf.exC Y.ha Y.hn Y.ht Y.ho) I.kIn J e (fun z => nomatch z) fun tk => ⟨.bl b, H, I.kept (t' := tk) fun _ _ z => z, rfl, q⟩
end
section
variable {K : PySem.W.Frag} {σ : L2.St} {H : Hp} {Q : VK} {nx : L2.St → Hp → Prop} {rt : VK} {bk ct : L2.St → Hp → Prop} {C : Addr} {sp : Sp} {m f : Str} {W Wout : WX} {te : TE} {t : TA} {i : Nat} {ts : Addr → Value → Option Addr → TS} {c cls : Value} {d : Option Addr}
theorem r_raise1 {D : Ends} (h : t σ H fun vs H1 => ∃ v, vs = [v] ∧ ∀ d, H1 d = none → W (.ref C) (some d) σ (upd H1 d (.xd [(f, v)]))) : tRaise1 C f W t D σ H := h
theorem r_tMtX (h : te σ H fun x H1 => ∃ a dx fs, x = .ref a ∧ H1 a = some (.ins C dx fs) ∧ fs.lookup m = none ∧ t σ H1 fun vs H2 => sp (x :: vs) H2 Q fun cls d H3 => W cls d σ H3) : tMtX C m sp W te t σ H Q := h
/-- the clause names what is raised -/
theorem r_caught (e : PySem.W.exmOne K cls c = some true) (h : ∀ a, H a = none → ts a cls d ⟨fun σ' H' => nx (σ'.set i none) H', rt, fun σ' H' => bk (σ'.set i none) H', fun σ' H' => ct (σ'.set i none) H'⟩ (σ.set i (some (.ref a))) H) : wAs K c i ts Wout ⟨nx, rt, bk, ct⟩ cls d σ H :=
  ⟨true, e, fun _ => h, fun z => Bool.noConfusion z⟩
theorem r_xf {a C : Addr} {R : V → Prop} {dd : Addr} {fs : List (Str × V)} {v : V} (h1 : cls = .ref C) (h2 : d = some dd) (h3 : H dd = some (.xd fs)) (h4 : fs.lookup f = some v) (h : R v) : V.ref a = .ref a ∧ cls = .ref C ∧ ∃ (dd : Addr) (fs : List (Str × V)) (v : V), d = some dd ∧ H dd = some (.xd fs) ∧ fs.lookup f = some v ∧ R v := ⟨rfl, h1, dd, fs, v, h2, h3, h4, h⟩
theorem r_tXf {a C : Addr} (h : te σ H fun x H1 => x = .ref a ∧ cls = .ref C ∧ ∃ (dd : Addr) (fs : List (Str × V)) (v : V), d = some dd ∧ H1 dd = some (.xd fs) ∧ fs.lookup f = some v ∧ Q v H1) : tXf a cls d C f te σ H Q := h
end
/-- a method that may raise keeps its promise -/
theorem ok_methX {P : Program} {w : World} {K : PySem.W.Frag} {mg : Str → Option Value} {base : Heap} {f : Addr} {fd : FuncData} {x qual : Str} {params : Arguments} {body : List Stmt} {scope : Scope} {dvs : List V} {kws : List (Str × V)} {N ps : List Str} {k : Nat} {sp : Sp}
    (F : FunD K x qual params body scope dvs kws f fd) (S : FnScope N ps scope) (len : ∀ vs H Q E, sp vs H Q E → vs.length = ps.length)
    (hbody : ∀ (cdv : Value) (A : Around) (outer : List Env) (s : Shared) (H : Hp) (vs : List V) (Q : VK) (E : XK), Room k (A.deeper (envOfC qual scope s.heap.objs.size f cdv)) → sp vs H Q E →
      ∃ t, PSs (cxOf (L2N.CX P w) P w K mg base N qual scope f cdv A outer s H E) body t ∧ t ⟨fun _ H' => Q .non H', Q, fun _ _ => False, fun _ _ => False⟩ (start N vs) H) : FnOk P w K mg base (L2N.CX P w) (k + 1) f fd ps sp :=
  F.ok S len fun cdv A outer s H vs Q E hr h => hbody cdv A outer s H vs Q E hr h
end Yk

set_option maxHeartbeats 1000000
/-! What a head says of the text's own classes of errors. -/
namespace Xh
open PySem PySem.W PySem.Spec PyProof.Rows L2 He Yk
def oexB (K : Frag) (C : Addr) : Bool := match K.lookup C with
  | some ⟨.type "type", _, .cls cd, sl⟩ => (match cd.mro, sl.toList with
    | .ref C' :: bm, [_, _, _, _, some (.builtin n), _] => C' == C && (n == "ValueError.__new__" && (!cd.hasDel && (cd.hasDict && HandSPX.refsVE bm)))
    | _, _ => false)
  | _ => false
theorem oexB_ok {K : Frag} {C : Addr} (h : oexB K C = true) : ∃ nm q N bs bm sn sub ab col dd k0 k1 k2 k3 k5, K.lookup C = some (excClassObj nm q C N bs bm true sn sub ab col dd k0 k1 k2 k3 k5 "ValueError.__new__") ∧ HandSPX.refsVE bm = true := by
  unfold oexB at h
  split at h
  · rename_i dd cd sl ho
    split at h
    · rename_i C' bm k0 k1 k2 k3 n k5 hm hs
      simp only [Bool.and_eq_true, beq_iff_eq, Bool.not_eq_true'] at h
      obtain ⟨rfl, rfl, hdel, hdict, ht⟩ := h
      obtain ⟨nm, bs, mro, ns, qn, hd, sn, sub, ab, col, del⟩ := cd
      dsimp only at hm hdel hdict
      subst hm hdel hdict
      have hsl : sl = #[k0, k1, k2, k3, some (.builtin "ValueError.__new__"), k5] := by
        obtain ⟨l⟩ := sl
        simp only at hs
        rw [hs]
      subst hsl
      exact ⟨nm, qn, ns, bs, bm, sn, sub, ab, col, dd, k0, k1, k2, k3, k5, ho, ht⟩
    · cases h
  · cases h
def xcB (K : Frag) (x : Str) : Bool := oexB K (ga K x) && (eqO (findIn K (.ref (ga K x)) "__setattr__") (some (some (.builtin "object.__setattr__"))) && (decide (subIn K (.ref (ga K x)) (.type "BaseException") = some true) && (decide (typeIn K (.ref (ga K x)) = some (.type "type")) && (keepIn K (.ref (ga K x)) && (xfB K (ga K x) &&
  ((clsIn K (ga K x)).isSome && (eqO (findIn K (.ref (ga K x)) "__class__") (some (some (.builtin "object.__class__"))) && (eqO (specialIn K (.builtin "object.__class__") "__get__") (some (some (.builtin "getset_descriptor.__get__"))) && (decide (takesIn K (.builtin "object.__class__") = some true) && decide (mroIn K (ga K x) (.type "object") = some true))))))))))
theorem xcB_ok {K : Frag} {mg : Str → Option Value} {x : Str} (h : xcB K x = true) (hm : mg x = some (.ref (ga K x))) : Xc K mg x (ga K x) := by
  unfold xcB at h
  simp only [Bool.and_eq_true] at h
  obtain ⟨h1, h2, h3, h4, h5, h6, h7, h8, h9, h10, h11⟩ := h
  exact ⟨hm, ⟨oexB_ok h1, eqO_ok h2, of_decide_eq_true h3, of_decide_eq_true h4, h5⟩, xfB_ok h6, h7, eqO_ok h8, eqO_ok h9, of_decide_eq_true h10, of_decide_eq_true h11⟩
def xiB (K : Frag) (x : Str) : Bool := eqO (findIn K (.ref (ga K x)) "__init__") (some (some (.ref (ma K (ga K x) "__init__")))) && decide (typeIn K (.ref (ma K (ga K x) "__init__")) = some (.type "function"))
theorem xi_of {P : Program} {w : World} {K : Frag} {mg : Str → Option Value} {base : Heap} {k : Nat} {x : Str} {fd : FuncData} {ps : List Str} {sp : Sp} (Y : Xc K mg x (ga K x)) (h : xiB K x = true) (O : FnOk P w K mg base CX0 k (ma K (ga K x) "__init__") fd ps sp) (b : Binds K fd ps []) : Xi P w K mg base k x (ga K x) sp := by
  obtain ⟨h1, h2⟩ := Bool.and_eq_true_iff.mp h
  exact ⟨_, fd, ps, Y.hm, Y.oe, eqO_ok h1, of_decide_eq_true h2, O, b⟩
end Xh
namespace Yk
open PySem PySem.Spec PyProof.Rows L2 L2H
theorem fnT_none {P : Program} {w : World} {K : PySem.W.Frag} {mg : Str → Option Value} {base : Heap} {x : Str} {params : Arguments} {body : List Stmt} {scope : Scope} {f : Addr} {fd : FuncData} {ps : List Str} {sp : Sp} (F : FunD K x x params body scope [] [] f fd) (hm : mg x = some (.ref f))
    (hb : ∀ (kV doc pm : Value) (an : Option Addr) (cdv ct : Value) (us : List Value), us.length = ps.length → bindArgs (PySem.W.fnOf x x params body scope .none kV doc pm an cdv ct) ⟨us, []⟩ = pure (ps.zip us)) (no : ∀ vs H Q E, ¬ sp vs H Q E) : FnT P w K mg base 0 x sp :=
  ⟨f, fd, ps, hm, F.kp, ⟨fun vs H Q E h => absurd h (no _ _ _ _), fun A outer s H args us vs Q E p _ _ _ _ _ _ h => absurd h (no _ _ _ _)⟩, F.bindsN hb⟩
end Yk

set_option maxHeartbeats 0
namespace YkHead
open PySem PySem.Spec PyProof.Rows L2 Yk
def dD (x : Str) (i : Nat) : Hk.DefP := ⟨fun K => He.ga K x, x, x, defArgs (top i), defBody (top i), defScope (top i), [], []⟩
def fn0 : List Hk.DefP := [dD "plus" 7, dD "minus" 8, dD "_added" 9, dD "compare" 10, dD "smallest" 11, dD "largest" 12, dD "_law_bag" 20, dD "_law_draw" 21, dD "_law_of" 22, dD "_law_amount" 23, dD "_law_sum" 24, dD "_law_rest" 25, dD "_law_scaled" 26, dD "_law_less" 27, dD "_law_min" 28, dD "_law_max" 29, dD "_law_all" 30, dD "_law_same" 31, dD "_law_some" 32, dD "_law_part" 33]
def fn1 : List Hk.DefP := [dD "_law_wire_deed" 34, dD "_law_piece" 35, dD "_law_short" 36, dD "_law_buffer_deed" 37, dD "_law_buffer_looks" 38, dD "_law_hop_deed" 39, dD "law" 40, ⟨fun K => He.ma K (He.ga K "Hop") "__init__", "__init__", "Hop.__init__", defArgs (inClass (top 16) 0), defBody (inClass (top 16) 0), defScope (inClass (top 16) 0), [], []⟩, ⟨fun K => He.ma K (He.ga K "Hop") "remember", "remember", "Hop.remember", defArgs (inClass (top 16) 1), defBody (inClass (top 16) 1), defScope (inClass (top 16) 1), [], []⟩, ⟨fun K => He.ma K (He.ga K "Hop") "sent_after", "sent_after", "Hop.sent_after", defArgs (inClass (top 16) 2), defBody (inClass (top 16) 2), defScope (inClass (top 16) 2), [], []⟩, ⟨fun K => He.ma K (He.ga K "Hop") "copy", "copy", "Hop.copy", defArgs (inClass (top 16) 4), defBody (inClass (top 16) 4), defScope (inClass (top 16) 4), [], []⟩, ⟨fun K => He.ma K (He.ga K "Buffer") "__init__", "__init__", "Buffer.__init__", defArgs (inClass (top 14) 0), defBody (inClass (top 14) 0), defScope (inClass (top 14) 0), [], []⟩, ⟨fun K => Hk.getter K (He.ma K (He.ga K "Buffer") "held"), "held", "Buffer.held", defArgs (inClass (top 14) 1), defBody (inClass (top 14) 1), defScope (inClass (top 14) 1), [], []⟩, ⟨fun K => Hk.getter K (He.ma K (He.ga K "Buffer") "fullest"), "fullest", "Buffer.fullest", defArgs (inClass (top 14) 2), defBody (inClass (top 14) 2), defScope (inClass (top 14) 2), [], []⟩, ⟨fun K => He.ma K (He.ga K "Buffer") "set_to", "set_to", "Buffer.set_to", defArgs (inClass (top 14) 5), defBody (inClass (top 14) 5), defScope (inClass (top 14) 5), [], []⟩, ⟨fun K => He.ma K (He.ga K "Buffer") "take_in", "take_in", "Buffer.take_in", defArgs (inClass (top 14) 3), defBody (inClass (top 14) 3), defScope (inClass (top 14) 3), [], []⟩, ⟨fun K => He.ma K (He.ga K "Buffer") "give", "give", "Buffer.give", defArgs (inClass (top 14) 4), defBody (inClass (top 14) 4), defScope (inClass (top 14) 4), [], []⟩, ⟨fun K => He.ma K (He.ga K "Wire") "__init__", "__init__", "Wire.__init__", defArgs (inClass (top 18) 0), defBody (inClass (top 18) 0), defScope (inClass (top 18) 0), [], []⟩, ⟨fun K => He.ma K (He.ga K "Wire") "put", "put", "Wire.put", defArgs (inClass (top 18) 1), defBody (inClass (top 18) 1), defScope (inClass (top 18) 1), [], []⟩, ⟨fun K => He.ma K (He.ga K "Wire") "arriving", "arriving", "Wire.arriving", defArgs (inClass (top 18) 2), defBody (inClass (top 18) 2), defScope (inClass (top 18) 2), [], []⟩]
def fn2 : List Hk.DefP := [⟨fun K => He.ma K (He.ga K "Wire") "under_way", "under_way", "Wire.under_way", defArgs (inClass (top 18) 3), defBody (inClass (top 18) 3), defScope (inClass (top 18) 3), [], []⟩, ⟨fun K => He.ma K (He.ga K "Short") "__init__", "__init__", "Short.__init__", defArgs (inClass (top 4) 0), defBody (inClass (top 4) 0), defScope (inClass (top 4) 0), [], []⟩, ⟨fun K => He.ma K (He.ga K "Buffer") "copy", "copy", "Buffer.copy", defArgs (inClass (top 14) 6), defBody (inClass (top 14) 6), defScope (inClass (top 14) 6), [], []⟩, ⟨fun K => He.ma K (He.ga K "Wire") "copy", "copy", "Wire.copy", defArgs (inClass (top 18) 4), defBody (inClass (top 18) 4), defScope (inClass (top 18) 4), [], []⟩]
def fn : List Hk.DefP := fn0 ++ fn1 ++ fn2
def fa0 : List He.Fa := [.glo "Hop", .cls "Hop", .noat "Hop" "_way", .noat "Hop" "_age", .noat "Hop" "_sent", .mkr "Hop", .meth "Hop" "remember", .meth "Hop" "sent_after", .meth "Hop" "copy", .glo "Buffer", .cls "Buffer", .noat "Buffer" "size", .noat "Buffer" "_water", .noat "Buffer" "_most", .mkr "Buffer", .meth "Buffer" "set_to", .meth "Buffer" "take_in", .meth "Buffer" "give", .meth "Buffer" "copy", .glo "Wire"]
def fa1 : List He.Fa := [.cls "Wire", .noat "Wire" "_way", .noat "Wire" "_sent", .mkr "Wire", .meth "Wire" "put", .meth "Wire" "arriving", .meth "Wire" "under_way", .meth "Wire" "copy", .glo "Short", .glo "BandError", .glo "_wall", .glo "plus", .glo "minus", .glo "_added", .glo "compare", .glo "smallest", .glo "largest", .glo "_law_bag", .glo "_law_draw", .glo "_law_of"]
def fa2 : List He.Fa := [.glo "_law_amount", .glo "_law_sum", .glo "_law_rest", .glo "_law_scaled", .glo "_law_less", .glo "_law_min", .glo "_law_max", .glo "_law_all", .glo "_law_same", .glo "_law_some", .glo "_law_part", .glo "_law_wire_deed", .glo "_law_piece", .glo "_law_short", .glo "_law_buffer_deed", .glo "_law_buffer_looks", .glo "_law_hop_deed", .glo "law", .free "ValueError", .free "all"]
def fa3 : List He.Fa := [.free "any", .free "bool", .free "dict", .free "divmod", .free "int", .free "isinstance", .free "len", .free "list", .free "max", .free "min", .free "property", .free "range", .free "str", .free "sum", .free "tuple", .free "zip"]
def fa : List He.Fa := fa0 ++ fa1 ++ fa2 ++ fa3
def ex (K : PySem.W.Frag) : Bool := Hk.propB K "Buffer" "held" && Hk.propB K "Buffer" "fullest" && Xh.xcB K "Short" && Xh.xiB K "Short" && He.eqO (PySem.W.findIn K (.ref (He.ga K "Short")) "amount") (some none) && decide (PySem.W.exmOne K (.ref (He.ga K "Short")) (.ref (He.ga K "Short")) = some true) && decide (PySem.W.kitOne K (.ref (He.ga K "Short")) (.ref (He.ga K "BandError")) = some true) && He.eqO (PySem.W.nsIn K mainGlobals "gcd") (some (some (.builtin "math.gcd"))) && He.eqO (PySem.W.nsIn K mainGlobals "ZERO") (some (some (.ref (He.ga K "ZERO")))) && He.tupB K "ZERO" [.int 0, .int 1]
abbrev R : PySem.W.OpenRow := PySem.W.OpenLaw.row PySem.Challenge.rw_bandheld_k31_wires_buffers_hops_told
def as_0 : List Addr := [3, 6, 4, 49, 59, 79, 82, 89, 96, 103, 110, 117, 124, 185, 230, 277, 288, 295, 302, 309, 316, 323, 330, 337, 344, 351, 358, 363, 370, 377, 382, 389, 396, 403, 410, 415, 420, 0, 48, 58]
def as_1 : List Addr := [78, 88, 95, 102, 109, 116, 123, 184, 229, 276, 287, 294, 301, 308, 315, 322, 329, 336, 343, 350, 357, 362, 369, 376, 381, 388, 395, 402, 409, 414, 419, 43, 44, 45, 46, 47, 57, 60, 76, 77]
def as_2 : List Addr := [83, 84, 85, 86, 87, 90, 91, 92, 93, 94, 97, 98, 99, 100, 101, 104, 105, 106, 107, 108, 111, 112, 113, 114, 115, 118, 119, 120, 121, 122, 138, 146, 154, 161, 168, 175, 182, 183, 186, 187]
def as_3 : List Addr := [203, 208, 213, 220, 227, 228, 231, 232, 248, 255, 262, 267, 274, 275, 278, 279, 282, 283, 284, 285, 286, 289, 290, 291, 292, 293, 296, 297, 298, 299, 300, 303, 304, 305, 306, 307, 310, 311, 312, 313]
def as_4 : List Addr := [314, 317, 318, 319, 320, 321, 324, 325, 326, 327, 328, 331, 332, 333, 334, 335, 338, 339, 340, 341, 342, 345, 346, 347, 348, 349, 352, 353, 354, 355, 356, 359, 360, 361, 364, 365, 366, 367, 368, 371]
def as_5 : List Addr := [372, 373, 374, 375, 378, 379, 380, 383, 384, 385, 386, 387, 390, 391, 392, 393, 394, 397, 398, 399, 400, 401, 404, 405, 406, 407, 408, 411, 412, 413, 416, 417, 418, 75, 137, 145, 153, 160, 167, 174]
def as_6 : List Addr := [181, 202, 207, 212, 219, 226, 247, 254, 261, 266, 273, 70, 71, 72, 73, 74, 132, 133, 134, 135, 136, 144, 152, 155, 156, 157, 158, 159, 162, 163, 164, 165, 166, 169, 170, 171, 172, 173, 176, 177]
def as_7 : List Addr := [178, 179, 180, 197, 198, 199, 200, 201, 204, 205, 206, 209, 210, 211, 214, 215, 216, 217, 218, 221, 222, 223, 224, 225, 242, 243, 244, 245, 246, 249, 250, 251, 252, 253, 256, 257, 258, 259, 260, 263]
def as_8 : List Addr := [264, 265, 268, 269, 270, 271, 272, 2]
def as_ : List Addr := as_0 ++ as_1 ++ as_2 ++ as_3 ++ as_4 ++ as_5 ++ as_6 ++ as_7 ++ as_8
noncomputable abbrev hk : PySem.W.Hook := Hk.hook as_ fa fn ex
def ob (s : PySem.W.SharedT) : Hk.Al := Hk.obG as_ fa fn ex (HandSHeadRun.getT s)
theorem ob_eq (s : PySem.W.SharedT) : ob s = hk.obs s.abs := Hk.obG_eq (HandSHeadRun.getT_eq s)
def loose0 : List Str := ["_wall", "plus", "minus", "_added", "compare", "smallest", "largest", "_law_bag", "_law_draw", "_law_of", "_law_amount", "_law_sum", "_law_rest", "_law_scaled", "_law_less", "_law_min", "_law_max", "_law_all", "_law_same", "_law_some"]
def loose1 : List Str := ["_law_part", "_law_wire_deed", "_law_piece", "_law_short", "_law_buffer_deed", "_law_buffer_looks", "_law_hop_deed", "BandError", "Short", "Buffer", "Hop", "Wire", "ZERO"]
def loose : List Str := loose0 ++ loose1
abbrev vw : Program := PySem.W.view R.prog [0, 40]
theorem run (w : World) : HandSHeadRun.RunEqI R vw hk ob 8000 loose w := by
  unfold HandSHeadRun.RunEqI
  kernel_rfl
end YkHead

set_option maxHeartbeats 1000000
/-! Texts of numbers. -/
namespace Yk
open PySem PySem.Spec PyProof.Rows L2 TL
/-- the text of a number -/
def nt (n : Nat) : Str := Str.ofString (toString ((n : Nat) : Int))
theorem tl_nt (n : Nat) : tl (nt n) = numL n := tl_num n
theorem cps_nt (n : Nat) : (nt n).cps.toList = numL n := tl_nt n
theorem str_eq {a b : Str} (h : tl a = tl b) : a = b := Str.ext' (Array.toList_inj.mp h)
theorem len_nt (n : Nat) : (nt n).length = (numL n).length := by rw [← tl_nt]; exact (Array.length_toList).symm
theorem numL_le {n k : Nat} (hk : 0 < k) (h : n < 10 ^ k) : (numL n).length ≤ k := by
  unfold numL
  rw [List.length_map]
  exact (Nat.length_toDigits_le_iff (by decide) hk).mpr h
theorem numL_ne (n : Nat) : numL n ≠ [] := by
  unfold numL
  intro e
  have h := List.map_eq_nil_iff.mp e
  have h2 : 0 < (Nat.toDigits 10 n).length := by
    by_cases hn : n < 10
    · rw [Nat.toDigits_of_lt_base hn]; simp
    · rw [Nat.toDigits_of_base_le (by decide) (by omega)]; simp
  rw [h] at h2
  exact absurd h2 (by decide)
theorem numL_snoc {n d : Nat} (hn : 0 < n) (hd : d < 10) : numL (n * 10 + d) = numL n ++ numL d := by
  unfold numL
  rw [← List.map_append, Nat.toDigits_append_toDigits (by decide) hn hd, Nat.mul_comm]
theorem numL_digit {d : Nat} (hd : d < 10) : numL d = [48 + d] := numL_lt hd
/-- filled up with noughts -/
def padL (k n : Nat) : List Nat := List.replicate (k - (numL n).length) 48 ++ numL n
theorem numL_split : ∀ (k : Nat) (q r : Nat), 0 < q → r < 10 ^ (k + 1) → numL (q * 10 ^ (k + 1) + r) = numL q ++ padL (k + 1) r
  | 0, q, r, hq, hr => by
    have hr' : r < 10 := by simpa using hr
    unfold padL
    rw [numL_digit hr', show 10 ^ (0 + 1) = 10 from rfl, numL_snoc hq hr', numL_digit hr']
    rfl
  | k + 1, q, r, hq, hr => by
    have h1 : r / 10 < 10 ^ (k + 1) := Nat.div_lt_of_lt_mul (by rw [Nat.pow_succ] at hr; omega)
    have hd : r % 10 < 10 := Nat.mod_lt _ (by decide)
    have e : q * 10 ^ (k + 1 + 1) + r = (q * 10 ^ (k + 1) + r / 10) * 10 + r % 10 := by
      rw [Nat.pow_succ 10 (k + 1), ← Nat.mul_assoc, Nat.add_mul, Nat.add_assoc, Nat.div_add_mod' r 10]
    have hp : 0 < q * 10 ^ (k + 1) + r / 10 := by
      have : 0 < q * 10 ^ (k + 1) := Nat.mul_pos hq (Nat.pow_pos (by decide))
      omega
    rw [e, numL_snoc hp hd, numL_split k q (r / 10) hq h1, List.append_assoc]
    congr 1
    unfold padL
    by_cases hz : r / 10 = 0
    · have er : r = r % 10 := by omega
      rw [hz, numL_digit (show 0 < 10 by decide), numL_digit hd]
      have e2 : numL r = [48 + r % 10] := by rw [er]; simpa using numL_digit hd
      rw [e2]
      have h3 : List.replicate (k + 1 - [48 + 0].length) 48 ++ [48 + 0] = List.replicate (k + 1) 48 := by
        show List.replicate (k + 1 - 1) 48 ++ [48] = _
        rw [show k + 1 - 1 = k by omega, ← List.replicate_succ']
      rw [h3]
      show List.replicate (k + 1) 48 ++ _ = List.replicate (k + 1 + 1 - 1) 48 ++ _
      rw [show k + 1 + 1 - 1 = k + 1 by omega]
    · have e2 : numL r = numL (r / 10) ++ numL (r % 10) := by
        rw [← numL_snoc (by omega) hd, Nat.div_add_mod' r 10]
      rw [e2, List.length_append, numL_digit hd, List.append_assoc]
      rw [show k + 1 + 1 - ((numL (r / 10)).length + [48 + r % 10].length) = k + 1 - (numL (r / 10)).length by show k + 1 + 1 - (_ + 1) = _; omega]
theorem numL_range {n c : Nat} (h : c ∈ numL n) : 48 ≤ c ∧ c ≤ 57 := by
  unfold numL at h
  obtain ⟨ch, hch, e⟩ := List.mem_map.mp h
  have r := digit_range (Nat.isDigit_of_mem_toDigits (by decide) (by decide) hch)
  rw [← e]
  exact r
theorem zfill_tl {n k : Nat} (h : (numL n).length ≤ k) : tl (Txt.zfill (nt n) (k : Int)) = padL k n := by
  unfold Txt.zfill
  rw [len_nt]
  split
  · rename_i hk
    have e : (numL n).length = k := by omega
    unfold padL
    rw [e, Nat.sub_self, tl_nt]
    rfl
  · unfold zfilled
    have hc : ∀ c, (nt n).cps[0]? = some c → c ≠ 43 ∧ c ≠ 45 := by
      intro c hc
      have h1 : c ∈ numL n := by
        rw [← tl_nt]
        rw [← Array.getElem?_toList] at hc
        exact List.mem_of_getElem? hc
      have := numL_range h1
      omega
    have hp : tl (Builtin.Str.padded (nt n) (Int.toNat (k : Int) - (numL n).length) 0 48) = padL k n := by
      unfold Builtin.Str.padded padL
      show (Array.replicate (k - (numL n).length) 48 ++ (nt n).cps ++ Array.replicate 0 48).toList = _
      rw [Array.toList_append, Array.toList_append, cps_nt]
      simp
    split
    · rename_i e
      exact absurd rfl (hc _ e).1
    · rename_i e
      exact absurd rfl (hc _ e).2
    · exact hp
theorem read_nt {n : Nat} (h : (nt n).length ≤ 4300) : PySem.intText? (nt n) = some (n : Int) := by
  have hd : PySem.NumText.AllDigits (nt n).cps.toList := by
    intro c hc
    rw [cps_nt] at hc
    exact numL_range hc
  have hne : (nt n).cps.toList ≠ [] := by
    rw [cps_nt]
    exact numL_ne n
  have e := PySem.intText_digits hd hne h
  rw [cps_nt] at e
  rw [e]
  unfold numL
  rw [PySem.W.KIN.val_back]
theorem ascii_nt (n : Nat) : Txt.isascii (nt n) = true := by
  unfold Txt.isascii
  rw [← Array.all_toList, List.all_eq_true]
  intro c hc
  rw [cps_nt] at hc
  have := numL_range hc
  exact decide_eq_true (by omega)
theorem uni_digit : ∀ d : Nat, d < 10 → Unicode.isDigit (48 + d) = true := by decide +kernel
theorem digit_nt (n : Nat) : Txt.isdigit (nt n) = true := by
  unfold Txt.isdigit
  rw [Bool.and_eq_true]
  refine ⟨decide_eq_true ?_, ?_⟩
  · rw [len_nt]
    exact List.length_pos_iff.mpr (numL_ne n)
  · rw [← Array.all_toList, List.all_eq_true]
    intro c hc
    rw [cps_nt] at hc
    have h := numL_range hc
    have := uni_digit (c - 48) (by omega)
    rw [show 48 + (c - 48) = c by omega] at this
    exact this
theorem numL_head : ∀ n : Nat, 0 < n → ∃ c r, numL n = c :: r ∧ c ≠ 48 := by
  intro n
  induction n using Nat.strongRecOn with
  | _ n ih =>
    intro hn
    by_cases h : n < 10
    · exact ⟨48 + n, [], numL_digit h, by omega⟩
    · obtain ⟨c, r, e, hc⟩ := ih (n / 10) (by omega) (by omega)
      refine ⟨c, r ++ numL (n % 10), ?_, hc⟩
      have h2 := numL_snoc (n := n / 10) (d := n % 10) (by omega) (Nat.mod_lt _ (by decide))
      rw [show n / 10 * 10 + n % 10 = n by omega, e] at h2
      exact h2
theorem nt_zero : nt 0 = Str.ofString "0" := by decide +kernel
theorem starts_nt {n : Nat} (hn : 0 < n) : Txt.startswith (nt n) (Str.ofString "0") = false := by
  unfold Txt.startswith
  obtain ⟨c, r, e, hc⟩ := numL_head n hn
  rw [Bool.and_eq_false_iff]
  right
  unfold Builtin.Str.subAt
  rw [show (Str.ofString "0") = ⟨#[48]⟩ by decide +kernel]
  rw [beq_eq_false_iff_ne]
  intro z
  have z2 := congrArg Array.toList z
  rw [Array.toList_extract] at z2
  rw [cps_nt, e] at z2
  simp at z2
  have z3 : List.take 1 (c :: r) = [48] := z2
  simp at z3
  exact hc z3
/-- the text of an amount -/
def amTxt (q : Rat) : Str := if q.den = 1 then nt q.num.toNat else nt q.num.toNat ++ Str.ofString "/" ++ nt q.den
theorem slash_nt (n : Nat) : 47 ∉ tl (nt n) := fun h => by rw [tl_nt] at h; have := numL_range h; omega
theorem slash : Str.ofString "/" = ⟨#[47]⟩ := by decide +kernel
theorem part_nt (n : Nat) : Txt.partition (nt n) (Str.ofString "/") = (nt n, Str.empty, Str.empty) := partition_none (y := Str.ofString "/") (s := 47) (S := []) (by rw [slash]) (slash_nt n)
theorem part_am (n d : Nat) : Txt.partition (nt n ++ Str.ofString "/" ++ nt d) (Str.ofString "/") = (nt n, Str.ofString "/", nt d) := partition_app (y := Str.ofString "/") (s := 47) (S := []) (by rw [slash]) (slash_nt n)
theorem joinL_nil : ∀ l : List (List Nat), joinL [] l = l.flatten
  | [] => rfl
  | [p] => by simp [joinL]
  | p :: q :: r => by
    show p ++ ([] ++ joinL [] (q :: r)) = _
    rw [joinL_nil (q :: r)]
    simp
theorem tl_join0 (parts : List Str) : tl (Txt.join Str.empty parts) = (parts.map tl).flatten := by
  rw [join_eq, tl_join]
  exact joinL_nil _
theorem len_sum : ∀ parts : List Str, (parts.map (·.length)).sum = (parts.map tl).flatten.length
  | [] => rfl
  | p :: r => by
    show p.length + (r.map (·.length)).sum = (tl p ++ (r.map tl).flatten).length
    rw [List.length_append, len_sum r]
    congr 1
theorem bits_lt {n b : Nat} (h : n < 2 ^ b) : n < 10 ^ b := Nat.lt_of_lt_of_le h (Nat.pow_le_pow_left (by decide) b)
theorem log_lt {n b : Nat} (hb : 0 < b) (h : n < 2 ^ b) : n.log2 < b := PySem.Flt.log2_lt_of hb h
end Yk

set_option maxHeartbeats 1000000
namespace Yk
open PySem PySem.Spec PyProof.Rows L2

section
variable {P : Program} {w : World} {K : PySem.W.Frag} {mg : Str → Option Value} {base : Heap} {f : Addr} {fd : FuncData}
abbrev s_added : Stmt := top 9
theorem c_added : FnScope ["first", "second", "top", "bottom", "other_top", "other_bottom", "common", "rest", "new_top", "shared"] ["first", "second"] (defScope s_added) := ⟨rfl, rfl, rfl, by decide +kernel, rfl, by decide +kernel, by decide +kernel⟩
theorem f_added (F : FunD K "_added" "_added" (defArgs s_added) (defBody s_added) (defScope s_added) [] [] f fd) (hm : mg "_added" = some (.ref f)) (T : Bg mg) : Fn P w K mg base 1 "_added" (spAdded K) := by
  refine fn_def F hm c_added (fun vs H Q E h => ?_) (fun _ _ _ _ _ _ us hl => match us, hl with | [_, _], _ => rfl) (fun cdv A outer s H vs Q E hr h => ?_)
  · obtain ⟨v1, v2, p, q, rfl, _⟩ := h
    rfl
  · obtain ⟨v1, v2, p, q, rfl, ⟨a1, rfl, h1⟩, ⟨a2, rfl, h2⟩, z1, z2, k⟩ := h
    have nd := c_added.nd
    refine ⟨_, (pss_cons (ps_asg (pv 0) (pg_tup rfl (pgs_cons (pg_name (i := 2) nd rfl (by first | exact Or.inl rfl | exact Or.inr rfl)) (pgs_cons (pg_name (i := 3) nd rfl (by first | exact Or.inl rfl | exact Or.inr rfl)) pgs_nil))))
      (pss_cons (ps_asg (pv 1) (pg_tup rfl (pgs_cons (pg_name (i := 4) nd rfl (by first | exact Or.inl rfl | exact Or.inr rfl)) (pgs_cons (pg_name (i := 5) nd rfl (by first | exact Or.inl rfl | exact Or.inr rfl)) pgs_nil))))
      (pss_cons (ps_set (i := 6) nd rfl (by first | exact Or.inl rfl | exact Or.inr rfl) (pe_callBfun cr_gcd (by rfl) T.gcd (pa_cons (pv 3) (pa_cons (pv 5) pa_nil))))
      (pss_cons (ps_set (i := 7) nd rfl (by first | exact Or.inl rfl | exact Or.inr rfl) (pe_op op_fdivW (pv 3) (pv 6)))
      (pss_cons (ps_set (i := 8) nd rfl (by first | exact Or.inl rfl | exact Or.inr rfl) (pe_op op_add (pe_op op_mulW (pv 2) (pe_op op_fdivW (pv 5) (pv 6))) (pe_op op_mulW (pv 4) (pv 7))))
      (pss_cons (ps_set (i := 9) nd rfl (by first | exact Or.inl rfl | exact Or.inr rfl) (pe_callBfun cr_gcd (by rfl) T.gcd (pa_cons (pv 8) (pa_cons (pv 6) pa_nil))))
      (pss_one (ps_ret (pe_tup (pa_cons (pe_op op_fdivW (pv 8) (pv 9)) (pa_cons (pe_op op_mulW (pv 7) (pe_op op_fdivW (pv 5) (pv 9))) pa_nil))))))))))), ?_⟩
    show (_ : TS) _ [some _, some _, none, none, none, none, none, none, none, none] _
    try dsimp only [cxOf, Cx.nox]
    have g0 : 0 < Nat.gcd p.den q.den := Nat.gcd_pos_of_pos_left _ p.den_pos
    have gl : Nat.gcd p.den q.den < 2 ^ 4000 := Nat.lt_of_le_of_lt (Nat.gcd_le_left _ p.den_pos) z1.2
    have e1 : (p.den : Int).natAbs < 2 ^ 4000 := z1.2
    have e2 : (q.den : Int).natAbs < 2 ^ 4000 := z2.2
    have d1 : ∀ i : Int, CDivW i ((Nat.gcd p.den q.den : Nat) : Int) := fun i => cdiv g0 gl (by decide) (by decide)
    have m1 : CMulW p.num ((q.den : Int) / ((Nat.gcd p.den q.den : Nat) : Int)) := cmul z1.1 (dlt e2) (by decide) (by decide) (by decide)
    have m2 : CMulW q.num ((p.den : Int) / ((Nat.gcd p.den q.den : Nat) : Int)) := cmul z2.1 (dlt e1) (by decide) (by decide) (by decide)
    have s0 : ∀ n : Nat, 0 < Nat.gcd n (Nat.gcd p.den q.den) := fun n => Nat.gcd_pos_of_pos_right _ g0
    have sl : ∀ n : Nat, Nat.gcd n (Nat.gcd p.den q.den) < 2 ^ 4000 := fun n => Nat.lt_of_le_of_lt (Nat.gcd_le_right _ g0) gl
    have d2 : ∀ (i : Int) (n : Nat), CDivW i ((Nat.gcd n (Nat.gcd p.den q.den) : Nat) : Int) := fun i n => cdiv (s0 n) (sl n) (by decide) (by decide)
    have m3 : ∀ n : Nat, CMulW ((p.den : Int) / ((Nat.gcd p.den q.den : Nat) : Int)) ((q.den : Int) / ((Nat.gcd n (Nat.gcd p.den q.den) : Nat) : Int)) := fun n => cmul (dlt e1) (dlt e2) (by decide) (by decide) (by decide)
    walk_at "go"
    refine r_I (d1 _) ?_
    walk_at "go"
    refine r_I (d1 _) ?_
    walk_at "go"
    refine r_I (d2 _ _) ?_
    walk_at "go"
    refine r_I (d2 _ _) ?_
    walk_at "go"
    refine r_I (m3 _) ?_
    walk_at "go"
    refine k _ _ (Ext.refl.new (by assumption)) ⟨_, rfl, ?_⟩
    obtain ⟨x1, x2⟩ := add_int p q
    rw [x1, x2]
    exact tupS
end
end Yk

set_option maxHeartbeats 1000000
namespace Yk
open PySem PySem.Spec PyProof.Rows L2

section
variable {P : Program} {w : World} {K : PySem.W.Frag} {mg : Str → Option Value} {base : Heap} {f : Addr} {fd : FuncData}
def spProd (K : PySem.W.Frag) : Sp := fun vs H Q _ => ∃ p q : Rat, vs = [.int p.num, .int (p.den : Int), .int q.num, .int (q.den : Int)] ∧ Sz 4000 p ∧ Sz 4000 q ∧ RetAm K H Q (p * q)
def spTimes (K : PySem.W.Frag) : Sp := fun vs H Q _ => ∃ v1 v2 p q, vs = [v1, v2] ∧ Am K H v1 p ∧ Am K H v2 q ∧ Sz 4000 p ∧ Sz 4000 q ∧ RetAm K H Q (p * q)
def spOver (K : PySem.W.Frag) : Sp := fun vs H Q _ => ∃ v1 v2 p q, vs = [v1, v2] ∧ Am K H v1 p ∧ Am K H v2 q ∧ 0 < q ∧ Sz 4000 p ∧ Sz 4000 q ∧ RetAm K H Q (p / q)
def cmpQ (p q : Rat) : Int := if p < q then -1 else if q < p then 1 else 0
def spCompare (K : PySem.W.Frag) : Sp := fun vs H Q _ => ∃ v1 v2 p q, vs = [v1, v2] ∧ Am K H v1 p ∧ Am K H v2 q ∧ Sz 4000 p ∧ Sz 4000 q ∧ Q (.int (cmpQ p q)) H
abbrev s_compare : Stmt := top 10
theorem c_compare : FnScope ["first", "second", "left", "right"] ["first", "second"] (defScope s_compare) := ⟨rfl, rfl, rfl, by decide +kernel, rfl, by decide +kernel, by decide +kernel⟩
theorem f_compare (F : FunD K "compare" "compare" (defArgs s_compare) (defBody s_compare) (defScope s_compare) [] [] f fd) (hm : mg "compare" = some (.ref f))  : Fn P w K mg base 1 "compare" (spCompare K) := by
  refine fn_def F hm c_compare (fun vs H Q E h => ?_) (fun _ _ _ _ _ _ us hl => match us, hl with | [_, _], _ => rfl) (fun cdv A outer s H vs Q E hr h => ?_)
  · obtain ⟨v1, v2, p, q, rfl, _⟩ := h
    rfl
  · obtain ⟨v1, v2, p, q, rfl, ⟨a1, rfl, h1⟩, ⟨a2, rfl, h2⟩, z1, z2, k⟩ := h
    have nd := c_compare.nd
    refine ⟨_, (pss_cons (ps_set (i := 2) nd rfl (by first | exact Or.inl rfl | exact Or.inr rfl) (pe_op op_mulW (pe_ix ix_tup (pv 0) pe_int (fun _ _ => rfl)) (pe_ix ix_tup (pv 1) pe_int (fun _ _ => rfl))))
      (pss_cons (ps_set (i := 3) nd rfl (by first | exact Or.inl rfl | exact Or.inr rfl) (pe_op op_mulW (pe_ix ix_tup (pv 1) pe_int (fun _ _ => rfl)) (pe_ix ix_tup (pv 0) pe_int (fun _ _ => rfl))))
      (pss_cons (ps_if (pt_cmpR op_lt (pv 2) (pv 3) (nomark _))
        (pss_one (ps_ret (pe_un un_neg pe_int)))
        pss_nil)
      (pss_cons (ps_if (pt_cmpR op_gt (pv 2) (pv 3) (nomark _))
        (pss_one (ps_ret pe_int))
        pss_nil)
      (pss_one (ps_ret pe_int)))))), ?_⟩
    show (_ : TS) _ [some _, some _, none, none] _
    try dsimp only [cxOf, Cx.nox]
    have e1 : (p.den : Int).natAbs < 2 ^ 4000 := z1.2
    have e2 : (q.den : Int).natAbs < 2 ^ 4000 := z2.2
    have m1 : CMulW p.num (q.den : Int) := cmul z1.1 e2 (by decide) (by decide) (by decide)
    have m2 : CMulW q.num (p.den : Int) := cmul z2.1 e1 (by decide) (by decide) (by decide)
    walk_at "go"
    refine r_dec (fun hlt => ?_) (fun hlt => ?_)
    · walk_at "go"
      unfold cmpQ at k
      rw [if_pos ((Rat.lt_iff p q).mpr hlt)] at k
      exact k
    · walk_at "go"
      have n1 : ¬ p < q := fun z => hlt ((Rat.lt_iff p q).mp z)
      refine r_dec (fun hgt => ?_) (fun hgt => ?_)
      · walk_at "go"
        unfold cmpQ at k
        rw [if_neg n1, if_pos ((Rat.lt_iff q p).mpr hgt)] at k
        exact k
      · walk_at "go"
        have n2 : ¬ q < p := fun z => hgt ((Rat.lt_iff q p).mp z)
        unfold cmpQ at k
        rw [if_neg n1, if_neg n2] at k
        exact k
def spMinus (K : PySem.W.Frag) : Sp := fun vs H Q _ => ∃ v1 v2 p q, vs = [v1, v2] ∧ Am K H v1 p ∧ Am K H v2 q ∧ q ≤ p ∧ Sz 4000 p ∧ Sz 4000 q ∧ RetAm K H Q (p - q)
abbrev s_minus : Stmt := top 8
theorem c_minus : FnScope ["first", "second"] ["first", "second"] (defScope s_minus) := ⟨rfl, rfl, rfl, by decide +kernel, rfl, by decide +kernel, by decide +kernel⟩
theorem f_minus (F : FunD K "minus" "minus" (defArgs s_minus) (defBody s_minus) (defScope s_minus) [] [] f fd) (hm : mg "minus" = some (.ref f)) (Fcompare : Fn P w K mg base 1 "compare" (spCompare K)) (F_added : Fn P w K mg base 1 "_added" (spAdded K)) : Fn P w K mg base 2 "minus" (spMinus K) := by
  refine fn_def F hm c_minus (fun vs H Q E h => ?_) (fun _ _ _ _ _ _ us hl => match us, hl with | [_, _], _ => rfl) (fun cdv A outer s H vs Q E hr h => ?_)
  · obtain ⟨v1, v2, p, q, rfl, _⟩ := h
    rfl
  · obtain ⟨v1, v2, p, q, rfl, ⟨a1, rfl, h1⟩, ⟨a2, rfl, h2⟩, hle, z1, z2, k⟩ := h
    have nd := c_minus.nd
    refine ⟨_, (pss_cons (ps_if (pt_cmpR op_lt (pe_fn Fcompare (hr.mono (by decide)) (pa_cons (pv 0) (pa_cons (pv 1) pa_nil))) pe_int (nomark _))
        (pss_one ps_never)
        pss_nil)
      (pss_one (ps_ret (pe_fn F_added (hr.mono (by decide)) (pa_cons (pv 0) (pa_cons (pe_tup (pa_cons (pe_un un_neg (pe_ix ix_tup (pv 1) pe_int (fun _ _ => rfl))) (pa_cons (pe_ix ix_tup (pv 1) pe_int (fun _ _ => rfl)) pa_nil))) pa_nil)))))), ?_⟩
    show (_ : TS) _ [some _, some _] _
    try dsimp only [cxOf, Cx.nox]
    walk_at "go"
    refine ⟨_, _, p, q, rfl, ⟨_, rfl, h1⟩, ⟨_, rfl, h2⟩, z1, z2, ?_⟩
    walk_at "go"
    have n1 : ¬ cmpQ p q < 0 := by
      unfold cmpQ
      rw [if_neg (Rat.not_lt.mpr hle)]
      split <;> omega
    refine r_dec (fun hlt => absurd hlt n1) (fun _ => ?_)
    walk_at "go"
    refine ⟨_, _, p, -q, rfl, ⟨_, rfl, tupN h1 (by assumption)⟩, ⟨_, rfl, ?_⟩, z1, sz_neg z2, fun v H' e a => ?_⟩
    · rw [Rat.neg_num]
      exact tupS
    · refine k v H' ((Ext.refl.new (by assumption)).trans e) ?_
      rw [Rat.sub_eq_add_neg]
      exact a
/-- the sum of a row, from the left -/
def sumQ (qs : List Rat) : Rat := qs.foldl (· + ·) 0
theorem sumQ_take {qs : List Rat} {i : Nat} {q : Rat} (h : qs[i]? = some q) : sumQ (qs.take (i + 1)) = sumQ (qs.take i) + q := by
  obtain ⟨hl, e⟩ := List.getElem?_eq_some_iff.mp h
  unfold sumQ
  rw [← List.take_append_getElem hl, List.foldl_append, e]
  rfl
theorem sumQ_sz {m : Nat} : ∀ {qs : List Rat} (i : Nat), (∀ q ∈ qs, Sz m q) → i ≤ qs.length → Sz (1 + i * (m + 1)) (sumQ (qs.take i))
  | qs, 0, _, _ => by
    rw [List.take_zero]
    refine ⟨Nat.two_pow_pos _, ?_⟩
    rw [Nat.zero_mul]
    decide
  | qs, i + 1, h, hi => by
    have hq : qs[i]? = some qs[i] := List.getElem?_eq_getElem hi
    rw [sumQ_take hq]
    have h1 := sumQ_sz i h (by omega)
    have h2 := h qs[i] (List.getElem_mem hi)
    refine (sz_add h1 h2).mono ?_
    rw [Nat.add_mul]
    omega
def spPlusT (K : PySem.W.Frag) : Sp := fun vs H Q _ => ∃ t xs qs m, vs = [V.ref t] ∧ SqT K H t xs ∧ Ams K H xs qs ∧ (∀ q ∈ qs, Sz m q) ∧ m ≤ 4000 ∧ 1 + qs.length * (m + 1) ≤ 4000 ∧ RetAm K H Q (sumQ qs)
def spPlus (K : PySem.W.Frag) : Sp := fun vs H Q _ => ∃ qs m, Ams K H vs qs ∧ (∀ q ∈ qs, Sz m q) ∧ m ≤ 4000 ∧ 1 + qs.length * (m + 1) ≤ 4000 ∧ RetAm K H Q (sumQ qs)
abbrev s_plus : Stmt := top 7
theorem c_plus : FnScope ["amounts", "found", "further"] ["amounts"] (defScope s_plus) := ⟨rfl, rfl, rfl, by decide +kernel, rfl, by decide +kernel, by decide +kernel⟩
theorem f_plus (F : FunD K "plus" "plus" (defArgs s_plus) (defBody s_plus) (defScope s_plus) [] [] f fd) (hm : mg "plus" = some (.ref f)) (TZ : ∃ z, mg "ZERO" = some (.ref z) ∧ ∀ H, SqT K H z [.int 0, .int 1]) (F_added : Fn P w K mg base 1 "_added" (spAdded K)) : Fn P w K mg base 2 "plus" (spPlus K) := by
  refine fn_star (ps := []) (pv := "amounts") (sp := spPlusT K) F hm c_plus (fun _ _ _ _ _ _ us rest hl => match us, rest, hl with | [], [], _ => rfl | [], _ :: _, _ => rfl) (fun cdv A outer s H vs Q E hr h => ?_) ?himp
  case himp =>
    exact fun vs H Q E ⟨qs, m, h1, h2, h3, h4, k⟩ => ⟨[], vs, rfl, rfl, Nat.le_trans (by rw [h1.1]; have := Nat.le_mul_of_pos_right qs.length (show 0 < m + 1 by omega); omega : vs.length ≤ 4000) (by decide), fun p hp => ⟨p, vs, qs, m, rfl, tupS, h1.x0 (Ext.refl.new hp), h2, h3, h4, fun v H' e a => k v H' ((Ext.refl.new hp).trans e) a⟩⟩
  · obtain ⟨t, xs, qs, m, rfl, ht, ha, hz, hm, hl, k⟩ := h
    have nd := c_plus.nd
    obtain ⟨z, mz, TZ⟩ := TZ
    refine ⟨_, (pss_cons (ps_set (i := 1) nd rfl (by first | exact Or.inl rfl | exact Or.inr rfl) (pe_glob (v := .ref z) rfl mz rfl))
      (pss_cons (ps_for PassesOwn.never rfl (pi_tup (pv 0)) (pg_name (i := 2) nd rfl (by first | exact Or.inl rfl | exact Or.inr rfl))
        (pss_one (ps_set (i := 1) nd rfl (by first | exact Or.inl rfl | exact Or.inr rfl) (pe_fn F_added (hr.mono (by decide)) (pa_cons (pv 1) (pa_cons (pv 2) pa_nil))))))
      (pss_one (ps_ret (pv 1))))), ?_⟩
    show (_ : TS) _ [some _, none, none] _
    try dsimp only [cxOf, Cx.nox]
    walk_at "go"
    refine r_forT rfl ht (fun i σ H1 => Ext [] H H1 ∧ ∃ fv u, σ = [some (.ref t), some fv, u] ∧ Am K H1 fv (sumQ (qs.take i))) ⟨Ext.refl, _, _, rfl, ⟨z, rfl, TZ _⟩⟩ (fun i σ H1 _ h => tup0 h.1 ht) ?_ ?_
    · rintro i x σ H1 hx ⟨e1, fv, u, rfl, hf⟩
      have hi : i < qs.length := by rw [← ha.1]; exact (List.getElem?_eq_some_iff.mp hx).1
      have hq : qs[i]? = some qs[i] := List.getElem?_eq_getElem hi
      have hb := sumQ_sz i hz (by omega)
      have hsz : 1 + i * (m + 1) ≤ 4000 := Nat.le_trans (by have := Nat.mul_le_mul_right (m + 1) (Nat.le_of_lt hi); omega) hl
      walk_at "go"
      refine ⟨_, _, _, qs[i], rfl, hf, (ha.2 i x _ hx hq).x0 e1, hb.mono hsz, (hz _ (List.getElem_mem hi)).mono hm, fun v H' e a => ?_⟩
      walk_at "go"
      refine ⟨e1.trans e, _, _, rfl, ?_⟩
      rw [sumQ_take hq]
      exact a
    · rintro σ H1 ⟨e1, fv, u, rfl, hf⟩
      walk_at "go"
      rw [ha.1, List.take_length] at hf
      exact k _ _ e1 hf
end
end Yk

set_option maxHeartbeats 1000000
namespace Yk
open PySem PySem.Spec PyProof.Rows L2

section
variable {P : Program} {w : World} {K : PySem.W.Frag} {mg : Str → Option Value} {base : Heap} {f : Addr} {fd : FuncData}
def spMinT (F : Rat → List Rat → Rat) (K : PySem.W.Frag) : Sp := fun vs H Q _ => ∃ v0 q0 t xs qs, vs = [v0, V.ref t] ∧ Am K H v0 q0 ∧ Sz 4000 q0 ∧ SqT K H t xs ∧ Ams K H xs qs ∧ (∀ q ∈ qs, Sz 4000 q) ∧ RetAm K H Q (F q0 qs)
def spMin (F : Rat → List Rat → Rat) (K : PySem.W.Frag) : Sp := fun vs H Q _ => ∃ q0 qs, Ams K H vs (q0 :: qs) ∧ (∀ q ∈ q0 :: qs, Sz 4000 q) ∧ qs.length ≤ 4000 ∧ RetAm K H Q (F q0 qs)
theorem spMin_imp {F : Rat → List Rat → Rat} : ∀ vs H Q E, spMin F K vs H Q E → ∃ ws rest, vs = ws ++ rest ∧ ws.length = (["first"] : List Str).length ∧ rest.length ≤ sizeLine ∧ ∀ p, H p = none → spMinT F K (ws ++ [V.ref p]) (upd H p (.tup rest)) Q E := by
  rintro vs H Q E ⟨q0, qs, h1, h2, h3, k⟩
  cases vs with
  | nil => exact absurd h1.1 (by simp)
  | cons v0 rest =>
    have hl : rest.length = qs.length := by simpa using h1.1
    have h4 : Ams K H rest qs := ⟨hl, fun i v q a b => h1.2 (i + 1) v q (by simpa using a) (by simpa using b)⟩
    refine ⟨[v0], rest, rfl, rfl, Nat.le_trans (by omega : rest.length ≤ 4000) (by decide), fun p hp => ⟨v0, q0, p, rest, qs, rfl, (h1.2 0 v0 q0 rfl rfl).x0 (Ext.refl.new hp), h2 q0 List.mem_cons_self, tupS, h4.x0 (Ext.refl.new hp), fun q hq => h2 q (List.mem_cons_of_mem _ hq), fun v H' e a => k v H' ((Ext.refl.new hp).trans e) a⟩⟩
theorem cmp_lt (p q : Rat) : cmpQ p q < 0 ↔ p < q := by
  unfold cmpQ
  by_cases h : p < q
  · rw [if_pos h]; exact ⟨fun _ => h, fun _ => by decide⟩
  · rw [if_neg h]
    refine ⟨fun z => ?_, fun z => absurd z h⟩
    split at z <;> omega
theorem cmp_gt (p q : Rat) : 0 < cmpQ p q ↔ q < p := by
  unfold cmpQ
  by_cases h : p < q
  · rw [if_pos h]
    exact ⟨fun z => by omega, fun z => absurd (Rat.le_of_lt h) (Rat.not_le.mpr z)⟩
  · rw [if_neg h]
    by_cases h2 : q < p
    · rw [if_pos h2]; exact ⟨fun _ => h2, fun _ => by decide⟩
    · rw [if_neg h2]; exact ⟨fun z => by omega, fun z => absurd z h2⟩
abbrev s_smallest : Stmt := top 11
theorem c_smallest : FnScope ["first", "others", "found", "other"] ["first", "others"] (defScope s_smallest) := ⟨rfl, rfl, rfl, by decide +kernel, rfl, by decide +kernel, by decide +kernel⟩
theorem f_smallest (F : FunD K "smallest" "smallest" (defArgs s_smallest) (defBody s_smallest) (defScope s_smallest) [] [] f fd) (hm : mg "smallest" = some (.ref f)) (Fcompare : Fn P w K mg base 1 "compare" (spCompare K)) : Fn P w K mg base 2 "smallest" (spMin minQ K) := by
  refine fn_star (ps := ["first"]) (pv := "others") (sp := spMinT minQ K) F hm c_smallest (fun _ _ _ _ _ _ us rest hl => match us, rest, hl with | [_], [], _ => rfl | [_], _ :: _, _ => rfl) (fun cdv A outer s H vs Q E hr h => ?_) ?himp
  case himp =>
    exact spMin_imp
  · obtain ⟨v0, q0, t, xs, qs, rfl, h0, z0, ht, ha, hz, k⟩ := h
    have nd := c_smallest.nd
    refine ⟨_, (pss_cons (ps_set (i := 2) nd rfl (by first | exact Or.inl rfl | exact Or.inr rfl) (pv 0))
      (pss_cons (ps_for PassesOwn.never rfl (pi_tup (pv 1)) (pg_name (i := 3) nd rfl (by first | exact Or.inl rfl | exact Or.inr rfl))
        (pss_one (ps_if (pt_cmpR op_lt (pe_fn Fcompare (hr.mono (by decide)) (pa_cons (pv 3) (pa_cons (pv 2) pa_nil))) pe_int (nomark _))
          (pss_one (ps_set (i := 2) nd rfl (by first | exact Or.inl rfl | exact Or.inr rfl) (pv 3)))
          pss_nil)))
      (pss_one (ps_ret (pv 2))))), ?_⟩
    show (_ : TS) _ [some _, some _, none, none] _
    try dsimp only [cxOf, Cx.nox]
    walk_at "go"
    refine r_forT rfl ht (fun i σ H1 => H1 = H ∧ ∃ fv u, σ = [some v0, some (.ref t), some fv, u] ∧ Am K H fv (minQ q0 (qs.take i))) ⟨rfl, _, _, rfl, h0⟩ (fun i σ H1 _ h => h.1 ▸ ht) ?_ ?_
    · rintro i x σ H1 hx ⟨rfl, fv, u, rfl, hf⟩
      obtain ⟨q, hq, hxq⟩ := ha.at_ hx
      have sf : Sz 4000 (minQ q0 (qs.take i)) := minQ_mem z0 fun y hy => hz y (List.mem_of_mem_take hy)
      walk_at "go"
      refine ⟨_, _, q, _, rfl, hxq, hf, hz q (List.mem_of_getElem? hq), sf, ?_⟩
      walk_at "go"
      refine r_dec (fun hlt => ?_) (fun hge => ?_)
      · walk_at "go"
        refine ⟨rfl, _, _, rfl, ?_⟩
        unfold minQ
        rw [fold_take hq]
        show Am K H1 x (if q < minQ q0 (qs.take i) then q else minQ q0 (qs.take i))
        rw [if_pos ((cmp_lt _ _).mp hlt)]
        exact hxq
      · walk_at "go"
        refine ⟨rfl, _, _, rfl, ?_⟩
        unfold minQ
        rw [fold_take hq]
        show Am K H1 fv (if q < minQ q0 (qs.take i) then q else minQ q0 (qs.take i))
        rw [if_neg fun z => hge ((cmp_lt _ _).mpr z)]
        exact hf
    · rintro σ H1 ⟨rfl, fv, u, rfl, hf⟩
      walk_at "go"
      rw [ha.1, List.take_length] at hf
      exact k _ _ Ext.refl hf
abbrev s_largest : Stmt := top 12
theorem c_largest : FnScope ["first", "others", "found", "other"] ["first", "others"] (defScope s_largest) := ⟨rfl, rfl, rfl, by decide +kernel, rfl, by decide +kernel, by decide +kernel⟩
theorem f_largest (F : FunD K "largest" "largest" (defArgs s_largest) (defBody s_largest) (defScope s_largest) [] [] f fd) (hm : mg "largest" = some (.ref f)) (Fcompare : Fn P w K mg base 1 "compare" (spCompare K)) : Fn P w K mg base 2 "largest" (spMin maxQ K) := by
  refine fn_star (ps := ["first"]) (pv := "others") (sp := spMinT maxQ K) F hm c_largest (fun _ _ _ _ _ _ us rest hl => match us, rest, hl with | [_], [], _ => rfl | [_], _ :: _, _ => rfl) (fun cdv A outer s H vs Q E hr h => ?_) ?himp
  case himp =>
    exact spMin_imp
  · obtain ⟨v0, q0, t, xs, qs, rfl, h0, z0, ht, ha, hz, k⟩ := h
    have nd := c_largest.nd
    refine ⟨_, (pss_cons (ps_set (i := 2) nd rfl (by first | exact Or.inl rfl | exact Or.inr rfl) (pv 0))
      (pss_cons (ps_for PassesOwn.never rfl (pi_tup (pv 1)) (pg_name (i := 3) nd rfl (by first | exact Or.inl rfl | exact Or.inr rfl))
        (pss_one (ps_if (pt_cmpR op_gt (pe_fn Fcompare (hr.mono (by decide)) (pa_cons (pv 3) (pa_cons (pv 2) pa_nil))) pe_int (nomark _))
          (pss_one (ps_set (i := 2) nd rfl (by first | exact Or.inl rfl | exact Or.inr rfl) (pv 3)))
          pss_nil)))
      (pss_one (ps_ret (pv 2))))), ?_⟩
    show (_ : TS) _ [some _, some _, none, none] _
    try dsimp only [cxOf, Cx.nox]
    walk_at "go"
    refine r_forT rfl ht (fun i σ H1 => H1 = H ∧ ∃ fv u, σ = [some v0, some (.ref t), some fv, u] ∧ Am K H fv (maxQ q0 (qs.take i))) ⟨rfl, _, _, rfl, h0⟩ (fun i σ H1 _ h => h.1 ▸ ht) ?_ ?_
    · rintro i x σ H1 hx ⟨rfl, fv, u, rfl, hf⟩
      obtain ⟨q, hq, hxq⟩ := ha.at_ hx
      have sf : Sz 4000 (maxQ q0 (qs.take i)) := maxQ_mem z0 fun y hy => hz y (List.mem_of_mem_take hy)
      walk_at "go"
      refine ⟨_, _, q, _, rfl, hxq, hf, hz q (List.mem_of_getElem? hq), sf, ?_⟩
      walk_at "go"
      refine r_dec (fun hlt => ?_) (fun hge => ?_)
      · walk_at "go"
        refine ⟨rfl, _, _, rfl, ?_⟩
        unfold maxQ
        rw [fold_take hq]
        show Am K H1 x (if maxQ q0 (qs.take i) < q then q else maxQ q0 (qs.take i))
        rw [if_pos ((cmp_gt _ _).mp hlt)]
        exact hxq
      · walk_at "go"
        refine ⟨rfl, _, _, rfl, ?_⟩
        unfold maxQ
        rw [fold_take hq]
        show Am K H1 fv (if maxQ q0 (qs.take i) < q then q else maxQ q0 (qs.take i))
        rw [if_neg fun z => hge ((cmp_gt _ _).mpr z)]
        exact hf
    · rintro σ H1 ⟨rfl, fv, u, rfl, hf⟩
      walk_at "go"
      rw [ha.1, List.take_length] at hf
      exact k _ _ Ext.refl hf
def spPair (K : PySem.W.Frag) : Sp := fun vs H Q _ => ∃ a b : Nat, vs = [.int (a : Int), .int (b : Int)] ∧ 0 < b ∧ a < 2 ^ 8900 ∧ b < 2 ^ 8900 ∧ RetAm K H Q (mkRat (a : Int) b)
end
end Yk

set_option maxHeartbeats 1000000
namespace Yk
open PySem PySem.Spec PyProof.Rows L2

section
variable {P : Program} {w : World} {K : PySem.W.Frag} {mg : Str → Option Value} {base : Heap} {f : Addr} {fd : FuncData}
theorem szd {n : Nat} {q : Rat} (h : Sz n q) : (q.den : Int).natAbs < 2 ^ n := h.2
theorem mulz {m n : Nat} {i j : Int} (hi : i.natAbs < 2 ^ m) (hj : j.natAbs < 2 ^ n) : (i * j).natAbs < 2 ^ (m + n) := wide_lt hi hj
/-- amounts are not below nought: their first numbers are natural -/
theorem num_nat {q : Rat} (h : 0 ≤ q) : q.num = ((q.num.toNat : Nat) : Int) := (Int.toNat_of_nonneg (num_nn h)).symm
theorem pos_num {q : Rat} (h : 0 < q) : 0 < q.num.toNat := by have := num_pos' h; omega
theorem mk_add (p q : Rat) : mkRat (p.num * q.den + q.num * p.den) (p.den * q.den) = p + q := by rw [Rat.add_def, Rat.normalize_eq_mkRat]
theorem mk_mul (p q : Rat) : mkRat (p.num * q.num) (p.den * q.den) = p * q := by rw [Rat.mul_def, Rat.normalize_eq_mkRat]
def spMore (K : PySem.W.Frag) : Sp := fun vs H Q _ => ∃ v1 v2 p q, vs = [v1, v2] ∧ Am K H v1 p ∧ Am K H v2 q ∧ Sz 4000 p ∧ Sz 4000 q ∧ Q (.bl (decide (q < p))) H
/-- two amounts, of at most 2000 bits, to one -/
def sp2 (ok : Rat → Rat → Prop) (F : Rat → Rat → Rat) (K : PySem.W.Frag) : Sp := fun vs H Q _ => ∃ v1 v2 p q, vs = [v1, v2] ∧ Am K H v1 p ∧ Am K H v2 q ∧ Sz 4000 p ∧ Sz 4000 q ∧ 0 ≤ p ∧ 0 ≤ q ∧ ok p q ∧ RetAm K H Q (F p q)
theorem mk_quot {p q : Rat} (hq : 0 < q) : mkRat (p.num * q.den) (p.den * q.num.toNat) = p / q := by
  obtain ⟨i1, i2⟩ := inv_parts hq
  have e : q⁻¹.den = q.num.toNat := by omega
  rw [Rat.div_def, ← mk_mul, i1, e]
end
end Yk

set_option maxHeartbeats 1000000
namespace Yk
open PySem PySem.Spec PyProof.Rows L2

section
variable {P : Program} {w : World} {K : PySem.W.Frag} {mg : Str → Option Value} {base : Heap} {f : Addr} {fd : FuncData}
def lmin (p q : Rat) : Rat := if q < p then q else p
def lmax (p q : Rat) : Rat := if q < p then p else q
def spOrder (K : PySem.W.Frag) : Sp := fun vs H Q _ => ∃ v1 v2 p q, vs = [v1, v2] ∧ Am K H v1 p ∧ Am K H v2 q ∧ Sz 4000 p ∧ Sz 4000 q ∧ Q (.int (cmpQ p q)) H
theorem sumQ_nn : ∀ {qs : List Rat} {z : Rat}, 0 ≤ z → (∀ q ∈ qs, 0 ≤ q) → 0 ≤ qs.foldl (· + ·) z
  | [], z, h, _ => h
  | q :: r, z, h, hq => sumQ_nn (qs := r) (z := z + q) (Rat.add_nonneg h (hq q List.mem_cons_self)) fun x hx => hq x (List.mem_cons_of_mem _ hx)
def spSum (K : PySem.W.Frag) : Sp := fun vs H Q _ => ∃ t xs qs m, vs = [V.ref t] ∧ SqL K H t xs ∧ Ams K H xs qs ∧ (∀ q ∈ qs, Sz m q) ∧ (∀ q ∈ qs, 0 ≤ q) ∧ m ≤ 4000 ∧ 1 + qs.length * (m + 1) ≤ 4000 ∧ RetAm K H Q (sumQ qs)
end
end Yk

set_option maxHeartbeats 2000000
namespace Yk
open PySem PySem.Spec PyProof.Rows L2

section
variable {P : Program} {w : World} {K : PySem.W.Frag} {mg : Str → Option Value} {base : Heap} {f : Addr} {fd : FuncData}
theorem lst_upd {K : PySem.W.Frag} {H : Hp} {a b : Addr} {o : HO} {xs l : List V} (h : SqL K H a xs) (hb : H b = some (.lst l)) (hd : xs ≠ l) : SqL K (upd H b o) a xs := by
  rcases h with (h | ⟨u, h⟩) | h
  · exact .inl (.inl (by rw [upd_ne (fun z => hd (by rw [z, hb] at h; cases h; rfl))]; exact h))
  · exact .inl (.inr ⟨u, by rw [upd_ne (fun z => by rw [z, hb] at h; cases h)]; exact h⟩)
  · exact .inr h
theorem ns_ne (ns : List Int) (it : Addr) (l : List V) : ns.map V.int ≠ .ref it :: l := by
  cases ns with
  | nil => intro h; cases h
  | cons n r => intro h; cases h
theorem cpow {i : Int} {j : Int} (h0 : 0 ≤ j) (h1 : j ≤ 1000000) (h : i.natAbs < 2 ^ 64) : CPow i j := ⟨h0, h1, h⟩
theorem cdivc (i : Int) : CDivW i 97 := ⟨by decide, by decide +kernel⟩
def spDraw (K : PySem.W.Frag) : Sp := fun vs H Q _ => ∃ (b : Bag) (n : Int), vs = [.ref b.a, .int n] ∧ 0 < n ∧ n < 2 ^ 400 ∧ BagAt K H b ∧ ∀ (x : Int) H', 0 ≤ x → x < n → BagAt K H' b → Ext [b.a] H H' → Q (.int x) H'
theorem at_map {ns : List Int} {i : Nat} (h : i < ns.length) : atI (ns.map V.int) (i : Int) = some (.int ns[i]) := atI_nat (by rw [List.getElem?_map, List.getElem?_eq_getElem h] <;> rfl)
theorem bag_ex {K : PySem.W.Frag} {H : Hp} {b it : Addr} {ns : List Int} {pos : Nat} {rest seed cnt : Int} (hb : H b = some (.lst [.ref it, .int (pos : Int), .int rest, .int seed, .int cnt])) (hi : SqL K H it (ns.map V.int)) (hns : ns.length ≤ 63)
    (hp : pos ≤ ns.length) (hr : 0 ≤ rest) (h0 : 0 ≤ seed) (h1 : seed < 2147483629) : BagAt K H ⟨b, it, ns⟩ := ⟨_, hb, hi, hns, pos, rest, seed, cnt, rfl, hp, hr, h0, h1⟩
theorem modI (a : Int) {n : Int} (h : 0 < n) : 0 ≤ a % n ∧ a % n < n := ⟨Int.emod_nonneg a (by omega), Int.emod_lt_of_pos a h⟩
end
end Yk

set_option maxHeartbeats 2000000
namespace Yk
open PySem PySem.Spec PyProof.Rows L2

section
variable {P : Program} {w : World} {K : PySem.W.Frag} {mg : Str → Option Value} {base : Heap} {f : Addr} {fd : FuncData}
theorem cut_all {xs : List V} (h : xs.length ≤ 63) : cutV xs none (some 63) = xs := by
  unfold cutV
  rw [show HT.sIx xs.length 0 none = 0 from rfl, show HT.sIx xs.length xs.length (some 63) = min 63 xs.length from HT.sIx_nat _ _ 63, List.drop_zero, Nat.min_eq_right h]
  simp
def spBag (K : PySem.W.Frag) : Sp := fun vs H Q _ => ∃ (a : Addr) (ns : List Int), vs = [.ref a] ∧ SqL K H a (ns.map V.int) ∧ ns.length ≤ 63 ∧ ∀ (b : Bag) H', H b.a = none → Ext [] H H' → BagAt K H' b → Q (.ref b.a) H'
/-- one of a row of things: what is told of all of them is told of it -/
def spOf (K : PySem.W.Frag) : Sp := fun vs H Q _ => ∃ (b : Bag) (l : Addr) (xs : List V), vs = [.ref b.a, .ref l] ∧ BagAt K H b ∧ SqL K H l xs ∧ b.a ≠ l ∧ 0 < xs.length ∧ xs.length ≤ 4000 ∧ ∀ (i : Nat) (x : V) H', xs[i]? = some x → BagAt K H' b → Ext [b.a] H H' → Q x H'
abbrev s_law_of : Stmt := top 22
theorem c_law_of : FnScope ["_law_bag_here", "_law_things"] ["_law_bag_here", "_law_things"] (defScope s_law_of) := ⟨rfl, rfl, rfl, by decide +kernel, rfl, by decide +kernel, by decide +kernel⟩
theorem f_law_of (F : FunD K "_law_of" "_law_of" (defArgs s_law_of) (defBody s_law_of) (defScope s_law_of) [] [] f fd) (hm : mg "_law_of" = some (.ref f)) (T : Bt mg) (F_law_draw : Fn P w K mg base 1 "_law_draw" (spDraw K)) : Fn P w K mg base 2 "_law_of" (spOf K) := by
  refine fn_def F hm c_law_of (fun vs H Q E h => ?_) (fun _ _ _ _ _ _ us hl => match us, hl with | [_, _], _ => rfl) (fun cdv A outer s H vs Q E hr h => ?_)
  · obtain ⟨b, l, xs, rfl, _⟩ := h
    rfl
  · obtain ⟨b, l, xs, rfl, hb, hl, hne, h0, h4, k⟩ := h
    have nd := c_law_of.nd
    refine ⟨_, (pss_one (ps_ret (pe_ix ix_list (pv 1) (pe_fn F_law_draw (hr.mono (by decide)) (pa_cons (pv 0) (pa_cons (pe_callB cr_len (by rfl) T.len (by decide +kernel) (pa_cons (pv 1) pa_nil)) pa_nil))) (fun _ _ => rfl)))), ?_⟩
    show (_ : TS) _ [some _, some _] _
    try dsimp only [cxOf, Cx.nox]
    walk_at "go"
    refine ⟨b, _, rfl, by omega, Int.lt_of_le_of_lt (by omega : (xs.length : Int) ≤ 4000) (by decide), hb, fun x H' x0 x1 hb' e => ?_⟩
    have hl' : SqL K H' l xs := lstX e hl (by simpa using fun z => hne z.symm)
    have hx : x.toNat < xs.length := by omega
    refine r_ixL hl' (v := xs[x.toNat]) ?_ (k x.toNat _ H' (List.getElem?_eq_getElem hx) hb' e)
    have e2 : x = ((x.toNat : Nat) : Int) := by omega
    exact at_of e2 (List.getElem?_eq_getElem hx)
end
end Yk

set_option maxHeartbeats 4000000
namespace Yk
open PySem PySem.Spec PyProof.Rows L2

section
variable {P : Program} {w : World} {K : PySem.W.Frag} {mg : Str → Option Value} {base : Heap} {f : Addr} {fd : FuncData}
theorem of_am {K : PySem.W.Frag} {H : Hp} {b : Bag} {l : Addr} {xs : List V} {qs : List Rat} {Q : VK} {E : XK} (hb : BagAt K H b) (hl : SqL K H l xs) (hne : b.a ≠ l) (ha : Ams K H xs qs) (h0 : 0 < qs.length) (h4 : qs.length ≤ 4000)
    (k : ∀ v q H', q ∈ qs → Am K H' v q → BagAt K H' b → Ext [b.a] H H' → Q v H') : spOf K [.ref b.a, .ref l] H Q E :=
  ⟨b, l, xs, rfl, hb, hl, hne, by rw [ha.1]; exact h0, by rw [ha.1]; exact h4, fun i x H' hx hb' e => by
    obtain ⟨q, hq, hm⟩ := ha.at_ hx
    exact k x q H' (List.mem_of_getElem? hq) (hm.b hb e) hb' e⟩
theorem mulp {i j a b : Int} (i0 : 0 ≤ i) (i1 : i < a) (j0 : 0 ≤ j) (j1 : j < b) (ha : a ≤ 2 ^ 400) (hb : b ≤ 2 ^ 400) : CMulW i j := by
  refine cmul (m := 401) (n := 401) ?_ ?_ (by decide) (by decide) (by decide)
  · have : (2 : Nat) ^ 400 < 2 ^ 401 := by decide
    have : ((2 : Nat) ^ 400 : Int) = 2 ^ 400 := by norm_cast
    omega
  · have : (2 : Nat) ^ 400 < 2 ^ 401 := by decide
    have : ((2 : Nat) ^ 400 : Int) = 2 ^ 400 := by norm_cast
    omega
theorem e10 : (10 : Int) ^ Int.toNat 10 = 10000000000 := by decide
theorem e4 : (10 : Int) ^ Int.toNat 4 = 10000 := by decide
theorem e9 : (10 : Int) ^ Int.toNat 9 = 1000000000 := by decide
def spGreat (K : PySem.W.Frag) : Sp := fun vs H Q _ => ∃ b, vs = [.ref b.a] ∧ BagAt K H b ∧ ∀ (x : Int) H', 0 ≤ x → x < 2 ^ 114 → BagAt K H' b → Ext [b.a] H H' → Q (.int x) H'
theorem pair_am {a b : Nat} {m : Nat} (ha : a < 2 ^ m) (hb : 0 < b) (hb2 : b < 2 ^ m) : Sz m (mkRat (a : Int) b) ∧ 0 ≤ mkRat (a : Int) b := ⟨sz_mk hb rfl (by simpa using ha) hb2, mk_nn a b⟩
def spAmt (K : PySem.W.Frag) : Sp := fun vs H Q _ => ∃ b, vs = [.ref b.a] ∧ BagAt K H b ∧ ∀ v q H', Am K H' v q → 0 ≤ q → Sz 114 q → BagAt K H' b → Ext [b.a] H H' → Q v H'
/-- a bit: a whole number of twelfths, at most 12 -/
def spBit (K : PySem.W.Frag) : Sp := fun vs H Q _ => ∃ b, vs = [.ref b.a] ∧ BagAt K H b ∧ ∀ v (n d : Nat) H', n ≤ 12 → 0 < d → d ∣ 12 → Am K H' v (mkRat (n : Int) d) → BagAt K H' b → Ext [b.a] H H' → Q v H'
theorem spBit_amt {H : Hp} {b : Bag} {Q : VK} {E : XK} (hb : BagAt K H b) (k : ∀ v q H', Am K H' v q → 0 ≤ q → Sz 114 q → BagAt K H' b → Ext [b.a] H H' → Q v H') : spBit K [.ref b.a] H Q E :=
  ⟨b, rfl, hb, fun v n d H' hn d0 hd a b' e => by
    obtain ⟨z1, z2⟩ := pair_am (m := 114) (Nat.lt_of_le_of_lt hn (by decide)) d0 (Nat.lt_of_le_of_lt (Nat.le_of_dvd (by decide) hd) (by decide))
    exact k v _ H' a z2 z1 b' e⟩
theorem sz_lit {n : Int} {d m : Nat} (hd : d ≠ 0) (hc : n.natAbs.Coprime d) (h1 : n.natAbs < 2 ^ m) (h2 : d < 2 ^ m) : Sz m ⟨n, d, hd, hc⟩ := ⟨h1, h2⟩
theorem nn_lit {n : Int} {d : Nat} (hd : d ≠ 0) (hc : n.natAbs.Coprime d) (h : 0 ≤ n) : (0 : Rat) ≤ ⟨n, d, hd, hc⟩ := Rat.num_nonneg.mp h
def nine : List Rat := [⟨0, 1, by decide, by decide⟩, ⟨1, 1, by decide, by decide⟩, ⟨1000, 1, by decide, by decide⟩, ⟨1, 12, by decide, by decide⟩, ⟨999, 1, by decide, by decide⟩, ⟨1001, 1, by decide, by decide⟩, ⟨12001, 12, by decide, by decide⟩, ⟨1, 13, by decide, by decide⟩, ⟨2, 1, by decide, by decide⟩]
theorem nine_all : ∀ q ∈ nine, 0 ≤ q ∧ Sz 114 q := by
  intro q hq
  unfold nine at hq
  simp only [List.mem_cons, List.not_mem_nil, or_false] at hq
  rcases hq with rfl | rfl | rfl | rfl | rfl | rfl | rfl | rfl | rfl <;> exact ⟨nn_lit _ _ (by decide), sz_lit _ _ (by decide) (by decide)⟩
end
end Yk

set_option maxHeartbeats 4000000
namespace Yk
open PySem PySem.Spec PyProof.Rows L2

section
variable {P : Program} {w : World} {K : PySem.W.Frag} {mg : Str → Option Value} {base : Heap} {f : Addr} {fd : FuncData}
theorem perm_erase : ∀ {xs : List V} {i : Nat} (h : i < xs.length), (xs[i] :: xs.eraseIdx i).Perm xs
  | a :: r, 0, _ => List.Perm.refl _
  | a :: r, i + 1, h => ((List.Perm.swap a _ _)).trans ((perm_erase (xs := r) (i := i) (by simpa using h)).cons a)
/-- a new list with the same things -/
def spMixed (K : PySem.W.Frag) : Sp := fun vs H Q _ => ∃ (b : Bag) (l : Addr) (xs : List V), vs = [.ref b.a, .ref l] ∧ BagAt K H b ∧ SqL K H l xs ∧ b.a ≠ l ∧ xs.length ≤ 4000 ∧ ∀ (p : Addr) (ys : List V) H', ys.Perm xs → H p = none → H' p = some (.lst ys) → BagAt K H' b → Ext [b.a] H H' → Q (.ref p) H'
end
end Yk

set_option maxHeartbeats 4000000
namespace Yk
open PySem PySem.Spec PyProof.Rows L2

section
variable {P : Program} {w : World} {K : PySem.W.Frag} {mg : Str → Option Value} {base : Heap} {f : Addr} {fd : FuncData}
/-- two rows of one length, from three to six -/
theorem row_cases {C : List V → List Rat → Prop} {xs : List V} {qs : List Rat} (hl : xs.length = qs.length) (h3 : 3 ≤ qs.length) (h6 : qs.length ≤ 6)
    (c3 : ∀ v0 v1 v2 q0 q1 q2, C [v0, v1, v2] [q0, q1, q2]) (c4 : ∀ v0 v1 v2 v3 q0 q1 q2 q3, C [v0, v1, v2, v3] [q0, q1, q2, q3])
    (c5 : ∀ v0 v1 v2 v3 v4 q0 q1 q2 q3 q4, C [v0, v1, v2, v3, v4] [q0, q1, q2, q3, q4]) (c6 : ∀ v0 v1 v2 v3 v4 v5 q0 q1 q2 q3 q4 q5, C [v0, v1, v2, v3, v4, v5] [q0, q1, q2, q3, q4, q5]) : C xs qs := by
  match xs, qs, hl, h3, h6 with
  | [], qs, h, h3, _ => simp at h; omega
  | [_], qs, h, h3, _ => simp at h; omega
  | [_, _], qs, h, h3, _ => simp at h; omega
  | [v0, v1, v2], [q0, q1, q2], _, _, _ => exact c3 ..
  | [v0, v1, v2, v3], [q0, q1, q2, q3], _, _, _ => exact c4 ..
  | [v0, v1, v2, v3, v4], [q0, q1, q2, q3, q4], _, _, _ => exact c5 ..
  | [v0, v1, v2, v3, v4, v5], [q0, q1, q2, q3, q4, q5], _, _, _ => exact c6 ..
  | _ :: _ :: _ :: _ :: _ :: _ :: _ :: _, _ :: _ :: _ :: _ :: _ :: _ :: _ :: _, _, _, h => simp at h; try omega
def spSums (K : PySem.W.Frag) : Sp := fun vs H Q _ => ∃ r xs qs, vs = [V.ref r] ∧ SqL K H r xs ∧ Ams K H xs qs ∧ 3 ≤ qs.length ∧ qs.length ≤ 6 ∧ (∀ q ∈ qs, Sz 114 q) ∧ RetAm K H Q (sumQ qs)
def spEnds (K : PySem.W.Frag) : Sp := fun vs H Q _ => ∃ r xs q0 qs, vs = [V.ref r] ∧ SqL K H r xs ∧ Ams K H xs (q0 :: qs) ∧ 3 ≤ (q0 :: qs).length ∧ (q0 :: qs).length ≤ 6 ∧ (∀ q ∈ q0 :: qs, Sz 114 q) ∧
  ∀ p v1 v2 H', H p = none → H' p = some (.lst [v1, v2]) → Am K H' v1 (minQ q0 qs) → Am K H' v2 (maxQ q0 qs) → Ext [] H H' → Q (.ref p) H'
def endsK (K : PySem.W.Frag) (H : Hp) (Q : VK) (qs : List Rat) : Prop := ∀ p v1 v2 H', H p = none → H' p = some (.lst [v1, v2]) → Am K H' v1 (minQ (qs.headD 0) qs.tail) → Am K H' v2 (maxQ (qs.headD 0) qs.tail) → Ext [] H H' → Q (.ref p) H'
end
end Yk

set_option maxHeartbeats 4000000
namespace Yk
open PySem PySem.Spec PyProof.Rows L2

section
variable {P : Program} {w : World} {K : PySem.W.Frag} {mg : Str → Option Value} {base : Heap} {f : Addr} {fd : FuncData}
/-! rows by their sizes, in any order -/
inductive Szs : Nat → List Rat → Prop where
  | nil : Szs 0 []
  | cons {m B : Nat} {q : Rat} {ps : List Rat} (h : Sz m q) (r : Szs B ps) : Szs (B + (m + 1)) (q :: ps)
theorem Szs.perm {l l' : List Rat} (p : l.Perm l') : ∀ {B : Nat}, Szs B l → Szs B l' := by
  induction p with
  | nil => exact fun h => h
  | cons x _ ih =>
    intro B h
    cases h with
    | cons h r => exact .cons h (ih r)
  | swap x y l =>
    intro B h
    cases h with
    | cons h r =>
      cases r with
      | cons h2 r =>
        rename_i m1 m2 B2
        have := Szs.cons h2 (Szs.cons h r)
        rw [show B2 + (m2 + 1) + (m1 + 1) = B2 + (m1 + 1) + (m2 + 1) by omega]
        exact this
  | trans _ _ ih1 ih2 => exact fun h => ih2 (ih1 h)
theorem Szs.all : ∀ {l : List Rat} {m : Nat}, (∀ q ∈ l, Sz m q) → Szs (l.length * (m + 1)) l
  | [], m, _ => by simpa using Szs.nil
  | q :: r, m, h => by
    have := Szs.cons (h q List.mem_cons_self) (Szs.all (l := r) (m := m) fun x hx => h x (List.mem_cons_of_mem _ hx))
    rw [List.length_cons, Nat.add_mul, Nat.one_mul]
    exact this
def opR (g : Rat → Rat → Rat) (z : Rat) (l : List Rat) : Rat := l.foldr g z
theorem opR_perm {g : Rat → Rat → Rat} {z : Rat} (hg : ∀ a b c, g a (g b c) = g b (g a c)) {l l' : List Rat} (p : l.Perm l') : opR g z l = opR g z l' := by
  induction p with
  | nil => rfl
  | cons x _ ih => exact congrArg (g x) ih
  | swap x y l => exact hg _ _ _
  | trans _ _ h1 h2 => exact h1.trans h2
theorem sumQ_R (l : List Rat) : sumQ l = opR (· + ·) 0 l := by
  have h : ∀ (l : List Rat) (z : Rat), l.foldl (· + ·) z = z + opR (· + ·) 0 l := by
    intro l
    induction l with
    | nil => intro z; show z = z + 0; rw [Rat.add_zero]
    | cons a r ih =>
      intro z
      show r.foldl (· + ·) (z + a) = z + (a + opR (· + ·) 0 r)
      rw [ih, Rat.add_assoc]
  unfold sumQ
  rw [h, Rat.zero_add]
theorem sumQ_perm {l l' : List Rat} (p : l.Perm l') : sumQ l = sumQ l' := by
  rw [sumQ_R, sumQ_R]
  exact opR_perm (fun a b c => by rw [← Rat.add_assoc, Rat.add_comm a b, Rat.add_assoc]) p
def prodQ (qs : List Rat) : Rat := qs.foldl (· * ·) 1
theorem prodQ_R (l : List Rat) : prodQ l = opR (· * ·) 1 l := by
  have h : ∀ (l : List Rat) (z : Rat), l.foldl (· * ·) z = z * opR (· * ·) 1 l := by
    intro l
    induction l with
    | nil => intro z; show z = z * 1; rw [Rat.mul_one]
    | cons a r ih =>
      intro z
      show r.foldl (· * ·) (z * a) = z * (a * opR (· * ·) 1 r)
      rw [ih, Rat.mul_assoc]
  unfold prodQ
  rw [h, Rat.one_mul]
theorem Ams.erase {H : Hp} {xs : List V} {qs : List Rat} (h : Ams K H xs qs) (i : Nat) : Ams K H (xs.eraseIdx i) (qs.eraseIdx i) := by
  refine ⟨by rw [List.length_eraseIdx, List.length_eraseIdx, h.1], fun j v q a b => ?_⟩
  rw [List.getElem?_eraseIdx] at a b
  split at a
  · rename_i hj
    rw [if_pos hj] at b
    exact h.2 j v q a b
  · rename_i hj
    rw [if_neg hj] at b
    exact h.2 (j + 1) v q a b
theorem Ams.app {H : Hp} {xs ys : List V} {qs rs : List Rat} (h : Ams K H xs qs) (r : Ams K H ys rs) : Ams K H (xs ++ ys) (qs ++ rs) := by
  refine ⟨by rw [List.length_append, List.length_append, h.1, r.1], fun j v q a b => ?_⟩
  by_cases hj : j < xs.length
  · rw [List.getElem?_append_left hj] at a
    rw [List.getElem?_append_left (by rw [← h.1]; exact hj)] at b
    exact h.2 j v q a b
  · rw [List.getElem?_append_right (by omega)] at a
    rw [List.getElem?_append_right (by rw [← h.1]; omega), ← h.1] at b
    exact r.2 _ v q a b
theorem Ams.take {H : Hp} {xs : List V} {qs : List Rat} (h : Ams K H xs qs) (n : Nat) : Ams K H (xs.take n) (qs.take n) := by
  refine ⟨by rw [List.length_take, List.length_take, h.1], fun j v q a b => ?_⟩
  rw [List.getElem?_take] at a b
  split at a
  · rename_i hj
    rw [if_pos hj] at b
    exact h.2 j v q a b
  · cases a
theorem Ams.drop {H : Hp} {xs : List V} {qs : List Rat} (h : Ams K H xs qs) (n : Nat) : Ams K H (xs.drop n) (qs.drop n) := by
  refine ⟨by rw [List.length_drop, List.length_drop, h.1], fun j v q a b => ?_⟩
  rw [List.getElem?_drop] at a b
  exact h.2 _ v q a b
theorem permR : ∀ {xs : List Rat} {i : Nat} (h : i < xs.length), (xs[i] :: xs.eraseIdx i).Perm xs
  | a :: r, 0, _ => List.Perm.refl _
  | a :: r, i + 1, h => ((List.Perm.swap a _ _)).trans ((permR (xs := r) (i := i) (by simpa using h)).cons a)
theorem permI (xs : List Rat) (z : Rat) (k : Nat) : (xs.take k ++ [z] ++ xs.drop k).Perm (z :: xs) := by
  have h : (xs.take k ++ z :: xs.drop k).Perm (z :: (xs.take k ++ xs.drop k)) := List.perm_middle
  rw [List.take_append_drop] at h
  rw [List.append_assoc]
  exact h
/-- a pair put together: its value, its size -/
structure Join (g : Rat → Rat → Rat) (z : Rat) : Prop where
  swap : ∀ a b c, g a (g b c) = g b (g a c)
  assoc : ∀ a b c, g (g a b) c = g a (g b c)
  one : ∀ a, g a z = a
  sz : ∀ {m n : Nat} {a b : Rat}, Sz m a → Sz n b → Sz (m + n + 1) (g a b)
theorem join_add : Join (· + ·) 0 := ⟨fun a b c => by show a + (b + c) = b + (a + c); rw [← Rat.add_assoc, Rat.add_comm a b, Rat.add_assoc], fun a b c => Rat.add_assoc a b c, fun a => Rat.add_zero a, sz_add⟩
theorem join_mul : Join (· * ·) 1 := ⟨fun a b c => by show a * (b * c) = b * (a * c); rw [← Rat.mul_assoc, Rat.mul_comm a b, Rat.mul_assoc], fun a b c => Rat.mul_assoc a b c, fun a => Rat.mul_one a, fun h1 h2 => (sz_mul h1 h2).mono (by omega)⟩
theorem Join.two {g : Rat → Rat → Rat} {z : Rat} (J : Join g z) (a b : Rat) (l : List Rat) : opR g z (a :: b :: l) = opR g z (g a b :: l) := (J.assoc a b _).symm
theorem Join.sz2 {g : Rat → Rat → Rat} {z : Rat} (J : Join g z) {a b : Rat} {l : List Rat} {B : Nat} (h : Szs B (a :: b :: l)) : Szs B (g a b :: l) := by
  cases h with
  | cons h1 r =>
    cases r with
    | cons h2 r =>
      rename_i m1 m2 B2
      have := Szs.cons (J.sz h1 h2) r
      rw [show B2 + (m2 + 1) + (m1 + 1) = B2 + (m1 + m2 + 1 + 1) by omega]
      exact this
theorem Szs.hd {B : Nat} {a : Rat} {l : List Rat} (h : Szs B (a :: l)) : Sz B a := by
  cases h with
  | cons h1 r => exact h1.mono (by omega)
theorem Szs.tl {B : Nat} {a : Rat} {l : List Rat} (h : Szs B (a :: l)) : ∃ B', B' ≤ B ∧ Szs B' l := by
  cases h with
  | cons h1 r => exact ⟨_, by omega, r⟩
def gop (c : Bool) : Rat → Rat → Rat := if c then (· + ·) else (· * ·)
def gun (c : Bool) : Rat := if c then 0 else 1
theorem join_of (c : Bool) : Join (gop c) (gun c) := by
  cases c
  · exact join_mul
  · exact join_add
def spGrouped (K : PySem.W.Frag) : Sp := fun vs H Q _ => ∃ (b : Bag) (r : Addr) (c : Bool) (xs : List V) (qs : List Rat), vs = [.ref b.a, .ref r, .bl c] ∧ BagAt K H b ∧ SqL K H r xs ∧ b.a ≠ r ∧ Ams K H xs qs ∧ 1 ≤ qs.length ∧ qs.length ≤ 6 ∧ (∀ q ∈ qs, Sz 114 q) ∧
  ∀ v H', Am K H' v (opR (gop c) (gun c) qs) → BagAt K H' b → Ext [b.a] H H' → Q v H'
end
end Yk

set_option maxHeartbeats 4000000
namespace Yk
open PySem PySem.Spec PyProof.Rows L2

/-- the same data, so deep -/
inductive Eqd (K : PySem.W.Frag) (H : Hp) : Nat → V → V → Prop where
  | non (n : Nat) : Eqd K H n .non .non
  | bl (n : Nat) (b : Bool) : Eqd K H n (.bl b) (.bl b)
  | int (n : Nat) (i : Int) : Eqd K H n (.int i) (.int i)
  | str (n : Nat) (z : Str) : Eqd K H n (.str z) (.str z)
  | tup {n : Nat} {a b : Addr} {xs ys : List V} (ha : SqT K H a xs) (hb : SqT K H b ys) (hl : xs.length = ys.length) (h4 : xs.length ≤ 4000) (h : ∀ (i : Nat) (x y : V), xs[i]? = some x → ys[i]? = some y → Eqd K H n x y) : Eqd K H (n + 1) (.ref a) (.ref b)
  | lst {n : Nat} {a b : Addr} {xs ys : List V} (ha : SqL K H a xs) (hb : SqL K H b ys) (hl : xs.length = ys.length) (h4 : xs.length ≤ 4000) (h : ∀ (i : Nat) (x y : V), xs[i]? = some x → ys[i]? = some y → Eqd K H n x y) : Eqd K H (n + 1) (.ref a) (.ref b)
theorem Eqd.x0 {K : PySem.W.Frag} {H H1 : Hp} (e : Ext [] H H1) {n : Nat} {v w : V} (h : Eqd K H n v w) : Eqd K H1 n v w := by
  induction h with
  | non n => exact .non n
  | bl n b => exact .bl n b
  | int n i => exact .int n i
  | str n z => exact .str n z
  | tup ha hb hl h4 _ ih => exact .tup (tup0 e ha) (tup0 e hb) hl h4 ih
  | lst ha hb hl h4 _ ih => exact .lst (lst0 e ha) (lst0 e hb) hl h4 ih
theorem Am.eqd {K : PySem.W.Frag} {H : Hp} {v w : V} {q : Rat} (n : Nat) (h1 : Am K H v q) (h2 : Am K H w q) : Eqd K H (n + 1) v w := by
  obtain ⟨a, rfl, h1⟩ := h1
  obtain ⟨b, rfl, h2⟩ := h2
  refine .tup h1 h2 rfl (by simp) fun i x y hx hy => ?_
  rw [hx] at hy
  cases hy
  match i, hx with
  | 0, hx => cases hx; exact .int _ _
  | 1, hx => cases hx; exact .int _ _
  | i + 2, hx => cases hx
def spLike (K : PySem.W.Frag) : Nat → Sp
  | 0 => fun _ _ _ _ => False
  | n + 1 => fun vs H Q _ => ∃ v1 v2, vs = [v1, v2] ∧ Eqd K H n v1 v2 ∧ ∀ H', Ext [] H H' → Q (.bl true) H'
section
variable {P : Program} {w : World} {K : PySem.W.Frag} {mg : Str → Option Value} {base : Heap} {f : Addr} {fd : FuncData}
end
end Yk

set_option maxHeartbeats 4000000
namespace Yk
open PySem PySem.Spec PyProof.Rows L2 TL

section
variable {P : Program} {w : World} {K : PySem.W.Frag} {mg : Str → Option Value} {base : Heap} {f : Addr} {fd : FuncData}
def spNumText (K : PySem.W.Frag) : Sp := fun vs H Q _ => ∃ n : Nat, vs = [.int (n : Int)] ∧ n < 2 ^ 1900 ∧ ∀ H', Ext [] H H' → Q (.str (nt n)) H'
def spIsNum (K : PySem.W.Frag) : Sp := fun vs H Q _ => ∃ n : Int, vs = [.int n] ∧ Q (.bl true) H
def spIsAm (K : PySem.W.Frag) : Sp := fun vs H Q _ => ∃ (v : V) (q : Rat), vs = [v] ∧ Am K H v q ∧ 0 ≤ q ∧ Q (.bl true) H
end
end Yk

set_option maxHeartbeats 4000000
namespace Yk
open PySem PySem.Spec PyProof.Rows L2 TL

section
variable {σ : L2.St} {H : Hp} {Q : VK} {te : TE}
theorem r_js {t : TE} {ts : List TE} {acc : Str} {R : Str → Hp → Prop} (h : t σ H fun x H1 => ∃ y : Str, x = .str y ∧ (acc ++ y).length ≤ sizeLine ∧ tJs ts (acc ++ y) σ H1 R) : tJs (t :: ts) acc σ H R := h
theorem r_M1 {r : V → List V → Hp → VK → Prop} {to : TE} (h : to σ H fun x H1 => (∃ a, x = .str a) ∧ te σ H1 fun y H2 => r x [y] H2 Q) : tM1 r to te σ H Q := h
theorem r_jsN {acc : Str} {R : Str → Hp → Prop} (h : R acc H) : tJs [] acc σ H R := h
theorem r_fmt (h : te σ H fun x H1 => (∃ y : Str, x = .str y ∧ y.length ≤ sizeLine ∧ Q (.str y) H1) ∨ ∃ i : Int, x = .int i ∧ i.natAbs.log2 < 1920 ∧ Q (.str (toString i)) H1) : tFmt te σ H Q := h
theorem e_app (x : Str) : Str.empty ++ x = x := str_eq (by
  show (#[] ++ x.cps).toList = x.cps.toList
  simp)
theorem len_app (x y : Str) : (x ++ y).length = x.length + y.length := by
  show (x.cps ++ y.cps).size = _
  rw [Array.size_append]
  rfl
theorem ntl {n : Nat} (h : n < 2 ^ 1900) : (nt n).length ≤ 1900 := by rw [len_nt]; exact numL_le (by decide) (bits_lt h)
theorem ntl4 {n : Nat} (h : n < 2 ^ 1200) : (nt n).length ≤ 400 := by rw [len_nt]; exact numL_le (by decide) (Nat.lt_of_lt_of_le h (by decide +kernel))
end
section
variable {P : Program} {w : World} {K : PySem.W.Frag} {mg : Str → Option Value} {base : Heap} {f : Addr} {fd : FuncData}
def spReadNum (K : PySem.W.Frag) : Sp := fun vs H Q _ => ∃ (n : Nat) (m : Int), vs = [.str (nt n), .int m] ∧ (nt n).length ≤ 640 ∧ ((nt n).length : Int) ≤ m ∧ Q (.int (n : Int)) H
def spAmTxt (K : PySem.W.Frag) : Sp := fun vs H Q _ => ∃ v q, vs = [v] ∧ Am K H v q ∧ 0 ≤ q ∧ Sz 1900 q ∧ ∀ H', Ext [] H H' → Q (.str (amTxt q)) H'
def spReadAm (K : PySem.W.Frag) : Sp := fun vs H Q _ => ∃ q, vs = [.str (amTxt q)] ∧ 0 ≤ q ∧ Sz 1200 q ∧ RetAm K H Q q
end
end Yk

set_option maxHeartbeats 8000000
namespace Yk
open PySem PySem.Spec PyProof.Rows L2 TL

section
variable {P : Program} {w : World} {K : PySem.W.Frag} {mg : Str → Option Value} {base : Heap} {f : Addr} {fd : FuncData}
section
variable {H : Hp} {Q : VK} {E : XK} {v1 v2 v3 : V} {p q r : Rat} {m n : Nat}
theorem sumQ2 (p q : Rat) : sumQ [p, q] = p + q := by
  show 0 + p + q = p + q
  rw [Rat.zero_add]
theorem sumQ3 (p q r : Rat) : sumQ [p, q, r] = p + q + r := by
  show 0 + p + q + r = p + q + r
  rw [Rat.zero_add]
theorem k_plus2 (a1 : Am K H v1 p) (a2 : Am K H v2 q) (z1 : Sz 1900 p) (z2 : Sz 1900 q) (k : ∀ v H', Ext [] H H' → Am K H' v (p + q) → Q v H') : spPlus K [v1, v2] H Q E :=
  ⟨[p, q], 1900, Ams.cons a1 (Ams.cons a2 Ams.nil), fun x hx => by
    rcases List.mem_cons.mp hx with rfl | hx
    · exact z1
    · rw [List.mem_singleton.mp hx]; exact z2, by decide, by simp, fun v H' e a => k v H' e (by rw [sumQ2] at a; exact a)⟩
theorem k_plus3 (a1 : Am K H v1 p) (a2 : Am K H v2 q) (a3 : Am K H v3 r) (z1 : Sz 1300 p) (z2 : Sz 1300 q) (z3 : Sz 1300 r) (k : ∀ v H', Ext [] H H' → Am K H' v (p + q + r) → Q v H') : spPlus K [v1, v2, v3] H Q E :=
  ⟨[p, q, r], 1300, Ams.cons a1 (Ams.cons a2 (Ams.cons a3 Ams.nil)), fun x hx => by
    rcases List.mem_cons.mp hx with rfl | hx
    · exact z1
    · rcases List.mem_cons.mp hx with rfl | hx
      · exact z2
      · rw [List.mem_singleton.mp hx]; exact z3, by decide, by simp, fun v H' e a => k v H' e (by rw [sumQ3] at a; exact a)⟩
theorem k_times (a1 : Am K H v1 p) (a2 : Am K H v2 q) (z1 : Sz 4000 p) (z2 : Sz 4000 q) (k : ∀ v H', Ext [] H H' → Am K H' v (p * q) → Q v H') : spTimes K [v1, v2] H Q E := ⟨_, _, p, q, rfl, a1, a2, z1, z2, k⟩
theorem k_over (a1 : Am K H v1 p) (a2 : Am K H v2 q) (h : 0 < q) (z1 : Sz 4000 p) (z2 : Sz 4000 q) (k : ∀ v H', Ext [] H H' → Am K H' v (p / q) → Q v H') : spOver K [v1, v2] H Q E := ⟨_, _, p, q, rfl, a1, a2, h, z1, z2, k⟩
theorem k_minus (a1 : Am K H v1 p) (a2 : Am K H v2 q) (h : q ≤ p) (z1 : Sz 4000 p) (z2 : Sz 4000 q) (k : ∀ v H', Ext [] H H' → Am K H' v (p - q) → Q v H') : spMinus K [v1, v2] H Q E := ⟨_, _, p, q, rfl, a1, a2, h, z1, z2, k⟩
theorem k_cmp (a1 : Am K H v1 p) (a2 : Am K H v2 q) (z1 : Sz 4000 p) (z2 : Sz 4000 q) (k : Q (.int (cmpQ p q)) H) : spCompare K [v1, v2] H Q E := ⟨_, _, p, q, rfl, a1, a2, z1, z2, k⟩
theorem k_order (a1 : Am K H v1 p) (a2 : Am K H v2 q) (z1 : Sz 4000 p) (z2 : Sz 4000 q) (k : Q (.int (cmpQ p q)) H) : spOrder K [v1, v2] H Q E := ⟨_, _, p, q, rfl, a1, a2, z1, z2, k⟩
theorem k_two {ok : Rat → Rat → Prop} {F : Rat → Rat → Rat} (a1 : Am K H v1 p) (a2 : Am K H v2 q) (z1 : Sz 4000 p) (z2 : Sz 4000 q) (h1 : 0 ≤ p) (h2 : 0 ≤ q) (h3 : ok p q) (k : ∀ v H', Ext [] H H' → Am K H' v (F p q) → Q v H') : sp2 ok F K [v1, v2] H Q E := ⟨_, _, p, q, rfl, a1, a2, z1, z2, h1, h2, h3, k⟩
theorem ams_eqd {a b : Addr} {xs ys : List V} {qs : List Rat} (h1 : SqL K H a xs) (h2 : SqL K H b ys) (h3 : Ams K H xs qs) (h4 : Ams K H ys qs) (h5 : qs.length ≤ 4000) (n : Nat) : Eqd K H (n + 2) (.ref a) (.ref b) :=
  .lst h1 h2 (h3.1.trans h4.1.symm) (by rw [h3.1]; exact h5) fun i x y hx hy => by
    obtain ⟨q, hq, e1⟩ := h3.at_ hx
    exact e1.eqd n (h4.2 i y q hy hq)
theorem k_like {v w : V} {n : Nat} (h : Eqd K H n v w) (k : ∀ H', Ext [] H H' → Q (.bl true) H') : spLike K (n + 1) [v, w] H Q E := ⟨v, w, rfl, h, k⟩
theorem ints_eqd {a b : Addr} {ns : List Int} (h1 : SqL K H a (ns.map V.int)) (h2 : SqL K H b (ns.map V.int)) (h : ns.length ≤ 4000) (n : Nat) : Eqd K H (n + 1) (.ref a) (.ref b) :=
  .lst h1 h2 rfl (by rw [List.length_map]; exact h) fun i x y hx hy => by
    rw [hx] at hy
    cases hy
    rw [List.getElem?_map] at hx
    cases e : ns[i]? with
    | none => rw [e] at hx; cases hx
    | some z => rw [e] at hx; cases hx; exact .int _ _
theorem cmpQ_eq (p q : Rat) : cmpQ p q = cmpQ' p q := rfl
end
def spThree (K : PySem.W.Frag) : Sp := fun vs H Q _ => ∃ v1 v2 v3 p q r, vs = [v1, v2, v3] ∧ Am K H v1 p ∧ Am K H v2 q ∧ Am K H v3 r ∧ 0 ≤ p ∧ 0 ≤ q ∧ 0 ≤ r ∧ Sz 114 p ∧ Sz 114 q ∧ Sz 114 r ∧ ∀ H', Ext [] H H' → Q (.bl true) H'
end
end Yk

set_option maxHeartbeats 8000000
namespace Yk
open PySem PySem.Spec PyProof.Rows L2 TL

section
variable {P : Program} {w : World} {K : PySem.W.Frag} {mg : Str → Option Value} {base : Heap} {f : Addr} {fd : FuncData}
/-! the row of a turn -/
theorem Am.b2 {H H1 : Hp} {b : Bag} {v : V} {q : Rat} (e : Ext [b.a] H H1) (hb : BagAt K H b) (h : Am K H v q) : Am K H1 v q := h.b hb e
def Good (qs : List Rat) : Prop := 3 ≤ qs.length ∧ qs.length ≤ 6 ∧ ∀ q ∈ qs, 0 ≤ q ∧ Sz 114 q
structure RowAt (K : PySem.W.Frag) (H0 H : Hp) (b : Bag) (row : Addr) (xs : List V) (qs : List Rat) : Prop where
  at_ : H row = some (.lst xs)
  ams : Ams K H xs qs
  good : Good qs
  bag : BagAt K H b
  new : H0 row = none
  bag0 : BagAt K H0 b
  ext : Ext [b.a] H0 H
theorem RowAt.ne {H0 H : Hp} {b : Bag} {row : Addr} {xs : List V} {qs : List Rat} (R : RowAt K H0 H b row xs qs) : row ≠ b.a := fun z => R.bag0.ne R.new z.symm
theorem RowAt.x0 {H0 H H1 : Hp} {b : Bag} {row : Addr} {xs : List V} {qs : List Rat} (e : Ext [] H H1) (R : RowAt K H0 H b row xs qs) : RowAt K H0 H1 b row xs qs :=
  ⟨e _ _ R.at_ (fun z => nomatch z), R.ams.x0 e, R.good, R.bag.x0 e, R.new, R.bag0, R.ext.trans e.of0⟩
theorem RowAt.b {H0 H H1 : Hp} {b : Bag} {row : Addr} {xs : List V} {qs : List Rat} (e : Ext [b.a] H H1) (hb : BagAt K H1 b) (R : RowAt K H0 H b row xs qs) : RowAt K H0 H1 b row xs qs :=
  ⟨e _ _ R.at_ (by simpa using R.ne), R.ams.b R.bag e, R.good, hb, R.new, R.bag0, R.ext.trans e⟩
theorem RowAt.sq {H0 H : Hp} {b : Bag} {row : Addr} {xs : List V} {qs : List Rat} (R : RowAt K H0 H b row xs qs) : SqL K H row xs := .inl (.inl R.at_)
theorem Ams.set {H : Hp} {xs : List V} {qs : List Rat} (h : Ams K H xs qs) {j : Nat} {v : V} {q : Rat} (hv : Am K H v q) : Ams K H (xs.set j v) (qs.set j q) := by
  refine ⟨by rw [List.length_set, List.length_set, h.1], fun i x y a b => ?_⟩
  by_cases hj : j = i
  · subst hj
    rw [List.getElem?_set_self'] at a b
    cases ex : xs[j]? with
    | none => rw [ex] at a; cases a
    | some x0 =>
      cases eq : qs[j]? with
      | none => rw [eq] at b; cases b
      | some q0 =>
        rw [ex] at a
        rw [eq] at b
        cases a
        cases b
        exact hv
  · rw [List.getElem?_set_ne hj] at a b
    exact h.2 i x y a b
theorem lmax_eq (m q : Rat) : lmax m q = if m < q then q else m := by
  unfold lmax
  by_cases h1 : q < m
  · rw [if_pos h1, if_neg (by grind)]
  · rw [if_neg h1]
    by_cases h2 : m < q
    · rw [if_pos h2]
    · rw [if_neg h2]; grind
theorem minQ_spec : ∀ (qs : List Rat) (p : Rat), minQ p qs ∈ p :: qs ∧ ∀ x ∈ p :: qs, minQ p qs ≤ x
  | [], p => ⟨List.mem_cons_self, fun x hx => by rw [List.mem_singleton.mp hx]; exact Rat.le_refl⟩
  | q :: r, p => by
    obtain ⟨h1, h2⟩ := minQ_spec r (if q < p then q else p)
    have e : minQ p (q :: r) = minQ (if q < p then q else p) r := rfl
    rw [e]
    have h3 := h2 _ List.mem_cons_self
    refine ⟨?_, fun x hx => ?_⟩
    · rcases List.mem_cons.mp h1 with h | h
      · rw [h]; split <;> simp
      · exact List.mem_cons_of_mem _ (List.mem_cons_of_mem _ h)
    · rcases List.mem_cons.mp hx with rfl | hx
      · refine Rat.le_trans h3 ?_
        split
        · grind
        · exact Rat.le_refl
      · rcases List.mem_cons.mp hx with rfl | hx
        · refine Rat.le_trans h3 ?_
          split
          · exact Rat.le_refl
          · grind
        · exact h2 x (List.mem_cons_of_mem _ hx)
theorem maxQ_spec : ∀ (qs : List Rat) (p : Rat), maxQ p qs ∈ p :: qs ∧ ∀ x ∈ p :: qs, x ≤ maxQ p qs
  | [], p => ⟨List.mem_cons_self, fun x hx => by rw [List.mem_singleton.mp hx]; exact Rat.le_refl⟩
  | q :: r, p => by
    obtain ⟨h1, h2⟩ := maxQ_spec r (if p < q then q else p)
    have e : maxQ p (q :: r) = maxQ (if p < q then q else p) r := rfl
    rw [e]
    have h3 := h2 _ List.mem_cons_self
    refine ⟨?_, fun x hx => ?_⟩
    · rcases List.mem_cons.mp h1 with h | h
      · rw [h]; split <;> simp
      · exact List.mem_cons_of_mem _ (List.mem_cons_of_mem _ h)
    · rcases List.mem_cons.mp hx with rfl | hx
      · refine Rat.le_trans ?_ h3
        split
        · grind
        · exact Rat.le_refl
      · rcases List.mem_cons.mp hx with rfl | hx
        · refine Rat.le_trans ?_ h3
          split
          · exact Rat.le_refl
          · grind
        · exact h2 x (List.mem_cons_of_mem _ hx)
theorem minQ_perm {p q : Rat} {l m : List Rat} (h : (p :: l).Perm (q :: m)) : minQ p l = minQ q m := by
  obtain ⟨a1, a2⟩ := minQ_spec l p
  obtain ⟨b1, b2⟩ := minQ_spec m q
  exact Rat.le_antisymm (a2 _ (h.symm.subset b1)) (b2 _ (h.subset a1))
theorem maxQ_perm {p q : Rat} {l m : List Rat} (h : (p :: l).Perm (q :: m)) : maxQ p l = maxQ q m := by
  obtain ⟨a1, a2⟩ := maxQ_spec l p
  obtain ⟨b1, b2⟩ := maxQ_spec m q
  exact Rat.le_antisymm (b2 _ (h.subset a1)) (a2 _ (h.symm.subset b1))
theorem foldl_lmin (q : Rat) (l : List Rat) : (q :: l).foldl lmin q = minQ q l := by
  show l.foldl lmin (lmin q q) = minQ q l
  have e : lmin q q = q := by unfold lmin; split <;> rfl
  rw [e]
  rfl
theorem foldl_lmax (q : Rat) (l : List Rat) : (q :: l).foldl lmax q = maxQ q l := by
  show l.foldl lmax (lmax q q) = maxQ q l
  have e : lmax q q = q := by unfold lmax; split <;> rfl
  rw [e]
  have h : ∀ (l : List Rat) (z : Rat), l.foldl lmax z = l.foldl (fun m q => if m < q then q else m) z := by
    intro l
    induction l with
    | nil => intro z; rfl
    | cons a r ih =>
      intro z
      show r.foldl lmax (lmax z a) = r.foldl _ (if z < a then a else z)
      rw [lmax_eq, ih]
  exact h l q
/-- from the same things in another order, the same row -/
theorem ams_perm {H : Hp} {xs ys : List V} (p : ys.Perm xs) : ∀ {qs : List Rat}, Ams K H xs qs → ∃ rs, Ams K H ys rs ∧ rs.Perm qs := by
  induction p with
  | nil => exact fun {qs} h => ⟨qs, h, List.Perm.refl _⟩
  | cons x _ ih =>
    intro qs h
    cases qs with
    | nil => exact absurd h.1 (by simp)
    | cons q r =>
      have h1 : Ams K H _ r := ⟨by simpa using h.1, fun i v u a b => h.2 (i + 1) v u (by simpa using a) (by simpa using b)⟩
      obtain ⟨rs, a, b⟩ := ih h1
      exact ⟨q :: rs, Ams.cons (h.2 0 x q rfl rfl) a, b.cons q⟩
  | swap x y l =>
    intro qs h
    match qs, h with
    | [], h => exact absurd h.1 (by simp)
    | [_], h => exact absurd h.1 (by simp)
    | q1 :: q2 :: r, h =>
      have h1 : Ams K H l r := ⟨by simpa using h.1, fun i v u a b => h.2 (i + 2) v u (by simpa using a) (by simpa using b)⟩
      exact ⟨q2 :: q1 :: r, Ams.cons (h.2 1 _ q2 rfl rfl) (Ams.cons (h.2 0 _ q1 rfl rfl) h1), List.Perm.swap q1 q2 r⟩
  | trans _ _ ih1 ih2 =>
    intro qs h
    obtain ⟨rs, a, b⟩ := ih2 h
    obtain ⟨ts, c, d⟩ := ih1 a
    exact ⟨ts, c, d.trans b⟩
theorem Good.perm {qs rs : List Rat} (g : Good qs) (p : rs.Perm qs) : Good rs := ⟨by rw [p.length_eq]; exact g.1, by rw [p.length_eq]; exact g.2.1, fun q hq => g.2.2 q (p.subset hq)⟩
theorem k_amt {H : Hp} {b : Bag} {Q : VK} {E : XK} (hb : BagAt K H b) (k : ∀ v q H', Am K H' v q → 0 ≤ q → Sz 114 q → BagAt K H' b → Ext [b.a] H H' → Q v H') : spAmt K [.ref b.a] H Q E := ⟨b, rfl, hb, k⟩
theorem k_draw {H : Hp} {b : Bag} {n : Int} {Q : VK} {E : XK} (hb : BagAt K H b) (h0 : 0 < n) (h1 : n < 2 ^ 400) (k : ∀ (x : Int) H', 0 ≤ x → x < n → BagAt K H' b → Ext [b.a] H H' → Q (.int x) H') : spDraw K [.ref b.a, .int n] H Q E := ⟨b, n, rfl, h0, h1, hb, k⟩
end
end Yk

set_option maxHeartbeats 4000000
namespace Yk
structure Row where
  man : Option (Rat × Rat)
  w : Nat
  b : Rat
def shq (man : Option (Rat × Rat)) (w : Nat) (x : Rat) : Rat := match man with
  | none => 0
  | some (l, m) => lmax l (lmin m ((w : Rat) * x))
def Row.at_ (r : Row) (x : Rat) : Rat := shq r.man r.w (lmin x r.b)
def tot (rows : List Row) (x : Rat) : Rat := sumQ (rows.map fun r => r.at_ x)
theorem sumQ_cons (q : Rat) (l : List Rat) : sumQ (q :: l) = q + sumQ l := by
  have h : ∀ (l : List Rat) (z : Rat), l.foldl (· + ·) z = z + sumQ l := by
    intro l
    induction l with
    | nil => intro z; show z = z + 0; rw [Rat.add_zero]
    | cons a r ih =>
      intro z
      show r.foldl (· + ·) (z + a) = z + sumQ (a :: r)
      have e : sumQ (a :: r) = a + sumQ r := by
        show r.foldl (· + ·) (0 + a) = _
        rw [ih, Rat.zero_add]
      rw [ih, e, Rat.add_assoc]
  show l.foldl (· + ·) (0 + q) = _
  rw [h, Rat.zero_add]
theorem lmin_le1 (p q : Rat) : lmin p q ≤ p := by unfold lmin; split <;> grind
theorem lmin_le2 (p q : Rat) : lmin p q ≤ q := by unfold lmin; split <;> grind
theorem lmin_mono {p q r : Rat} (h : p ≤ q) : lmin p r ≤ lmin q r := by unfold lmin; split <;> split <;> grind
theorem wmono {w : Nat} {x y : Rat} (h : x ≤ y) : (w : Rat) * x ≤ (w : Rat) * y := Rat.mul_le_mul_of_nonneg_left h (by exact_mod_cast Nat.zero_le w)
theorem shq_mono {man : Option (Rat × Rat)} {w : Nat} {x y : Rat} (h : x ≤ y) : shq man w x ≤ shq man w y := by
  cases man with
  | none => exact Rat.le_refl
  | some p =>
    obtain ⟨l, m⟩ := p
    have h2 := wmono (w := w) h
    show lmax l (lmin m _) ≤ lmax l (lmin m _)
    generalize (w : Rat) * x = a at h2
    generalize (w : Rat) * y = b at h2
    unfold lmax lmin
    grind
theorem Row.mono (r : Row) {x y : Rat} (h : x ≤ y) : r.at_ x ≤ r.at_ y := shq_mono (lmin_mono h)
theorem tot_cons (r : Row) (rows : List Row) (x : Rat) : tot (r :: rows) x = r.at_ x + tot rows x := sumQ_cons _ _
theorem tot_mono (rows : List Row) {x y : Rat} (h : x ≤ y) : tot rows x ≤ tot rows y := by
  induction rows with
  | nil => exact Rat.le_refl
  | cons r rows ih =>
    rw [tot_cons, tot_cons]
    have := r.mono h
    grind
/-- linear between l and u -/
def Lin (T : Rat → Rat) (l u : Rat) : Prop := ∀ z, l ≤ z → z ≤ u → (T z - T l) * (u - l) = (T u - T l) * (z - l)
theorem Lin.const {T : Rat → Rat} {l u c : Rat} (hu : l ≤ u) (h : ∀ z, l ≤ z → z ≤ u → T z = c) : Lin T l u := fun z h1 h2 => by
  rw [h z h1 h2, h l Rat.le_refl hu, h u hu Rat.le_refl]
  grind
theorem Lin.line {T : Rat → Rat} {l u c : Rat} (hu : l ≤ u) (h : ∀ z, l ≤ z → z ≤ u → T z = c * z) : Lin T l u := fun z h1 h2 => by
  rw [h z h1 h2, h l Rat.le_refl hu, h u hu Rat.le_refl]
  grind
theorem Lin.add {T S : Rat → Rat} {l u : Rat} (h1 : Lin T l u) (h2 : Lin S l u) : Lin (fun z => T z + S z) l u := fun z a b => by
  have := h1 z a b
  have := h2 z a b
  dsimp only
  grind
def Row.brk (r : Row) : List Rat := match r.man with
  | none => [r.b]
  | some (l, m) => [l / (r.w : Rat), m / (r.w : Rat), r.b]
theorem Row.lin (r : Row) (hw : 0 < r.w) {l u : Rat} (hlu : l ≤ u) (h : r.man ≠ none → ∀ p ∈ r.brk, p ≤ l ∨ u ≤ p) : Lin r.at_ l u := by
  obtain ⟨man, w, b⟩ := r
  cases man with
  | none => exact Lin.const hlu (c := 0) fun z _ _ => rfl
  | some p =>
    obtain ⟨s, m⟩ := p
    have h := h (by simp)
    have hs := h (s / (w : Rat)) (by simp [Row.brk])
    have hm := h (m / (w : Rat)) (by simp [Row.brk])
    have hb := h b (by simp [Row.brk])
    have w0 : (0 : Rat) < (w : Rat) := by exact_mod_cast hw
    have es : (w : Rat) * (s / (w : Rat)) = s := by grind
    have em : (w : Rat) * (m / (w : Rat)) = m := by grind
    generalize s / (w : Rat) = s' at *
    generalize m / (w : Rat) = m' at *
    subst es em
    have k : ∀ z : Rat, ({ man := some ((w : Rat) * s', (w : Rat) * m'), w := w, b := b } : Row).at_ z = lmax ((w : Rat) * s') (lmin ((w : Rat) * m') ((w : Rat) * lmin z b)) := fun z => rfl
    have c1 : ∀ x y : Rat, x ≤ y → lmin ((w : Rat) * y) ((w : Rat) * x) = (w : Rat) * x := fun x y hxy => by have := wmono (w := w) hxy; unfold lmin; grind
    have c2 : ∀ x y : Rat, x ≤ y → lmin ((w : Rat) * x) ((w : Rat) * y) = (w : Rat) * x := fun x y hxy => by have := wmono (w := w) hxy; unfold lmin; grind
    have d1 : ∀ x y : Rat, x ≤ y → lmax ((w : Rat) * y) ((w : Rat) * x) = (w : Rat) * y := fun x y hxy => by have := wmono (w := w) hxy; unfold lmax; grind
    have d2 : ∀ x y : Rat, x ≤ y → lmax ((w : Rat) * x) ((w : Rat) * y) = (w : Rat) * y := fun x y hxy => by have := wmono (w := w) hxy; unfold lmax; grind
    rcases hb with hb | hb
    · refine Lin.const hlu (c := lmax ((w : Rat) * s') (lmin ((w : Rat) * m') ((w : Rat) * b))) fun z h1 h2 => ?_
      rw [k, show lmin z b = b by unfold lmin; grind]
    · have kz : ∀ z : Rat, z ≤ u → lmin z b = z := fun z h2 => by unfold lmin; grind
      rcases hm with hm | hm
      · refine Lin.const hlu (c := lmax ((w : Rat) * s') ((w : Rat) * m')) fun z h1 h2 => ?_
        rw [k, kz z h2, c2 _ _ (by grind)]
      · rcases hs with hs | hs
        · refine Lin.line hlu (c := (w : Rat)) fun z h1 h2 => ?_
          rw [k, kz z h2, c1 _ _ (by grind), d2 _ _ (by grind)]
        · refine Lin.const hlu (c := (w : Rat) * s') fun z h1 h2 => ?_
          rw [k, kz z h2, c1 _ _ (by grind), d1 _ _ (by grind)]
theorem lin_tot (rows : List Row) (hw : ∀ r ∈ rows, 0 < r.w) {l u : Rat} (hlu : l ≤ u) (h : ∀ r ∈ rows, r.man ≠ none → ∀ p ∈ r.brk, p ≤ l ∨ u ≤ p) : Lin (tot rows) l u := by
  induction rows with
  | nil => exact Lin.const hlu (c := 0) fun z _ _ => rfl
  | cons r rows ih =>
    have e : tot (r :: rows) = fun x => r.at_ x + tot rows x := funext fun x => tot_cons r rows x
    rw [e]
    exact (r.lin (hw r List.mem_cons_self) hlu (h r List.mem_cons_self)).add (ih (fun r hr => hw r (List.mem_cons_of_mem _ hr)) fun r hr => h r (List.mem_cons_of_mem _ hr))
theorem le_cases {x y : Rat} (h : x ≤ y) : x < y ∨ x = y := by grind
theorem nlt {x y : Rat} (h : x < y → False) : y ≤ x := Rat.not_lt.mp h
/-- the level: the least height at which the goal is reached, else the top -/
structure IsLev (T : Rat → Rat) (top goal y : Rat) : Prop where
  nn : 0 ≤ y
  le : y ≤ top
  lo : ∀ z, 0 ≤ z → z < y → T z < goal
  hi : goal ≤ T y ∨ y = top
theorem IsLev.le_of {T : Rat → Rat} {top goal y z : Rat} (a : IsLev T top goal y) (b : IsLev T top goal z) : z ≤ y := nlt fun h => by
  have := b.lo y a.nn h
  rcases a.hi with e | e
  · grind
  · have := b.le; grind
theorem IsLev.uniq {T : Rat → Rat} {top goal y z : Rat} (a : IsLev T top goal y) (b : IsLev T top goal z) : y = z := Rat.le_antisymm (b.le_of a) (a.le_of b)
/-- on a line -/
def onl (T : Rat → Rat) (goal l u : Rat) : Rat := l + (goal - T l) * (u - l) / (T u - T l)
theorem lev_line {T : Rat → Rat} {top goal l u : Rat} (mono : ∀ x y, x ≤ y → T x ≤ T y) (h0 : 0 ≤ l) (hlu : l ≤ u) (hu : u ≤ top) (hl : Lin T l u) (g1 : T l < goal) (g2 : goal ≤ T u) : IsLev T top goal (onl T goal l u) ∧ l < onl T goal l u ∧ onl T goal l u ≤ u ∧ T (onl T goal l u) = goal := by
  have lu : l < u := by
    rcases le_cases hlu with h | h
    · exact h
    · subst h; grind
  have d0 : 0 < T u - T l := by grind
  have e0 : 0 < u - l := by grind
  obtain ⟨y, hy⟩ : ∃ y, y = onl T goal l u := ⟨_, rfl⟩
  rw [← hy]
  have ey : (y - l) * (T u - T l) = (goal - T l) * (u - l) := by
    rw [hy]
    unfold onl
    grind
  have y1 : l < y := by
    have h1 : 0 < (y - l) * (T u - T l) := by rw [ey]; exact Rat.mul_pos (by grind) e0
    refine Rat.not_le.mp fun h => ?_
    have h2 : 0 ≤ (l - y) * (T u - T l) := Rat.mul_nonneg (by grind) (by grind)
    grind
  have y2 : y ≤ u := by
    refine Rat.not_lt.mp fun h => ?_
    have h1 : 0 < (y - u) * (T u - T l) := Rat.mul_pos (by grind) d0
    have h2 : 0 ≤ (T u - goal) * (u - l) := Rat.mul_nonneg (by grind) (by grind)
    grind
  have ty : T y = goal := by
    have h1 := hl y (by grind) y2
    have h2 : (T y - goal) * (u - l) = 0 := by grind
    rcases Rat.mul_eq_zero.mp h2 with h | h <;> grind
  refine ⟨⟨by grind, by grind, fun z z0 zy => ?_, .inl (by rw [ty]; exact Rat.le_refl)⟩, y1, y2, ty⟩
  rcases (Rat.le_total : z ≤ l ∨ l ≤ z) with h | h
  · have := mono z l h; grind
  · have h1 := hl z h (by grind)
    have h2 := hl y (by grind) y2
    have h3 : (T y - T z) * (u - l) = (T u - T l) * (y - z) := by grind
    have h4 : 0 < (T u - T l) * (y - z) := Rat.mul_pos d0 (by grind)
    refine Rat.not_le.mp fun h5 => ?_
    have h6 : 0 ≤ (T z - T y) * (u - l) := Rat.mul_nonneg (by grind) (by grind)
    grind
theorem lev_zero {T : Rat → Rat} {top goal : Rat} (h : 0 ≤ top) (g : goal ≤ T 0) : IsLev T top goal 0 := ⟨Rat.le_refl, h, fun z a b => by grind, .inl g⟩
theorem lev_top {T : Rat → Rat} {top goal : Rat} (mono : ∀ x y, x ≤ y → T x ≤ T y) (h : 0 ≤ top) (g : T top < goal) : IsLev T top goal top := ⟨h, Rat.le_refl, fun z a b => by have := mono z top (by grind); grind, .inr rfl⟩
/-- not below 0, at most M, a multiple of the D-th part of 1 -/
structure In (D M : Nat) (q : Rat) : Prop where
  nn : 0 ≤ q
  le : q ≤ (M : Rat)
  ex : ∃ n : Int, q * (D : Rat) = (n : Rat)
theorem natQ {a b : Nat} (h : a ≤ b) : (a : Rat) ≤ (b : Rat) := by exact_mod_cast h
theorem natP {a : Nat} (h : 0 < a) : (0 : Rat) < (a : Rat) := by exact_mod_cast h
theorem In.sz {D M j k : Nat} {q : Rat} (h : In D M q) (h0 : 0 < D) (hD : D ≤ 2 ^ j) (hM : M ≤ 2 ^ k) : Sz (j + k + 1) q := by
  obtain ⟨n, e⟩ := h.ex
  have d0 := natP h0
  have eq : q = mkRat n D := by
    rw [Rat.mkRat_eq_div]
    grind
  have n0 : 0 ≤ n := by
    have h1 : (0 : Rat) ≤ q * (D : Rat) := Rat.mul_nonneg h.nn (by grind)
    rw [e] at h1
    exact_mod_cast h1
  have n1 : n ≤ (M * D : Nat) := by
    have h1 : q * (D : Rat) ≤ (M : Rat) * (D : Rat) := Rat.mul_le_mul_of_nonneg_right h.le (by grind)
    rw [e] at h1
    have h2 : ((n : Int) : Rat) ≤ (((M * D : Nat) : Int) : Rat) := by push_cast; exact h1
    exact_mod_cast h2
  have hh : M * D ≤ 2 ^ (j + k) := by rw [Nat.add_comm, Nat.pow_add]; exact Nat.mul_le_mul hM hD
  have h2 : 2 ^ (j + k) < 2 ^ (j + k + 1) := Nat.pow_lt_pow_succ (by decide)
  have h3 : 2 ^ j ≤ 2 ^ (j + k) := Nat.pow_le_pow_right (by decide) (by omega)
  refine sz_mk h0 eq ?_ ?_
  · omega
  · omega
theorem In.up {D D' M : Nat} {q : Rat} (h : In D M q) (hd : D ∣ D') : In D' M q := by
  obtain ⟨n, e⟩ := h.ex
  obtain ⟨c, rfl⟩ := hd
  refine ⟨h.nn, h.le, n * (c : Int), ?_⟩
  push_cast
  grind
theorem In.most {D M M' : Nat} {q : Rat} (h : In D M q) (hm : M ≤ M') : In D M' q := ⟨h.nn, Rat.le_trans h.le (natQ hm), h.ex⟩
theorem In.of_le {D M M' : Nat} {q : Rat} (h : In D M q) (hm : q ≤ (M' : Rat)) : In D M' q := ⟨h.nn, hm, h.ex⟩
theorem In.zero {D M : Nat} : In D M 0 := ⟨Rat.le_refl, natQ (Nat.zero_le M), 0, by norm_cast; grind⟩
theorem In.nat {D M n : Nat} (h : n ≤ M) : In D M (n : Rat) := ⟨natQ (Nat.zero_le n), natQ h, ((n * D : Nat) : Int), by push_cast; rfl⟩
theorem In.frac {D M n d : Nat} (h : 0 < d) (hd : d ∣ D) (hm : n ≤ M * d) : In D M (mkRat (n : Int) d) := by
  obtain ⟨c, rfl⟩ := hd
  have d0 := natP h
  have e : mkRat (n : Int) d = (n : Rat) / (d : Rat) := by rw [Rat.mkRat_eq_div]; norm_cast
  have hm' : (n : Rat) ≤ (M : Rat) * (d : Rat) := by exact_mod_cast hm
  have n0 := natQ (Nat.zero_le n)
  obtain ⟨x, ex⟩ : ∃ x : Rat, x = (n : Rat) / (d : Rat) := ⟨_, rfl⟩
  have ex2 : x * (d : Rat) = (n : Rat) := by rw [ex]; grind
  rw [e, ← ex]
  refine ⟨?_, ?_, ((n * c : Nat) : Int), ?_⟩
  · refine Rat.not_lt.mp fun z => ?_
    have := Rat.mul_pos (a := -x) (b := (d : Rat)) (by grind) d0
    grind
  · refine Rat.not_lt.mp fun z => ?_
    have := Rat.mul_pos (a := x - (M : Rat)) (b := (d : Rat)) (by grind) d0
    grind
  · push_cast
    grind
theorem In.add {D M N : Nat} {p q : Rat} (h : In D M p) (g : In D N q) : In D (M + N) (p + q) := by
  obtain ⟨a, ea⟩ := h.ex
  obtain ⟨b, eb⟩ := g.ex
  have := h.nn; have := h.le; have := g.nn; have := g.le
  refine ⟨by grind, by push_cast; grind, a + b, by push_cast; grind⟩
theorem In.sub {D M N : Nat} {p q : Rat} (h : In D M p) (g : In D N q) (e : q ≤ p) : In D M (p - q) := by
  obtain ⟨a, ea⟩ := h.ex
  obtain ⟨b, eb⟩ := g.ex
  have := h.nn; have := h.le; have := g.nn; have := g.le
  refine ⟨by grind, by grind, a - b, by push_cast; grind⟩
theorem In.lmin {D M N : Nat} {p q : Rat} (h : In D M p) (g : In D N q) : In D N (lmin p q) := by
  unfold Yk.lmin
  split
  · exact g
  · exact h.of_le (by have := g.le; grind)
theorem In.lmin1 {D M N : Nat} {p q : Rat} (h : In D M p) (g : In D N q) : In D M (Yk.lmin p q) := by
  unfold Yk.lmin
  split
  · exact g.of_le (by have := h.le; grind)
  · exact h
theorem In.lmax {D M : Nat} {p q : Rat} (h : In D M p) (g : In D M q) : In D M (lmax p q) := by
  unfold Yk.lmax
  split
  · exact h
  · exact g
theorem In.mulN {D M : Nat} {q : Rat} (h : In D M q) (w : Nat) : In D (w * M) ((w : Rat) * q) := by
  obtain ⟨a, ea⟩ := h.ex
  have w0 : (0 : Rat) ≤ (w : Rat) := natQ (Nat.zero_le w)
  refine ⟨Rat.mul_nonneg w0 h.nn, ?_, (w : Int) * a, by push_cast; grind⟩
  push_cast
  exact Rat.mul_le_mul_of_nonneg_left h.le w0
theorem In.mul {D D' M N : Nat} {p q : Rat} (h : In D M p) (g : In D' N q) : In (D * D') (M * N) (p * q) := by
  obtain ⟨a, ea⟩ := h.ex
  obtain ⟨b, eb⟩ := g.ex
  have h1 : p * q ≤ (M : Rat) * q := Rat.mul_le_mul_of_nonneg_right h.le g.nn
  have h2 : (M : Rat) * q ≤ (M : Rat) * (N : Rat) := Rat.mul_le_mul_of_nonneg_left g.le (natQ (Nat.zero_le M))
  refine ⟨Rat.mul_nonneg h.nn g.nn, by push_cast; exact Rat.le_trans h1 h2, a * b, ?_⟩
  push_cast
  rw [← ea, ← eb]
  grind
theorem In.divN {D M w : Nat} {q : Rat} (h : In D M q) (hw : 0 < w) : In (D * w) M (q / (w : Rat)) := by
  obtain ⟨a, ea⟩ := h.ex
  have w0 := natP hw
  obtain ⟨x, ex⟩ : ∃ x : Rat, x = q / (w : Rat) := ⟨_, rfl⟩
  have ex2 : x * (w : Rat) = q := by rw [ex]; grind
  have w1 : (1 : Rat) ≤ (w : Rat) := by exact_mod_cast hw
  have x0 : 0 ≤ x := by
    refine Rat.not_lt.mp fun z => ?_
    have := Rat.mul_pos (a := -x) (b := (w : Rat)) (by grind) w0
    have := h.nn
    grind
  rw [← ex]
  refine ⟨x0, ?_, a, by push_cast; grind⟩
  have h1 : x * 1 ≤ x * (w : Rat) := Rat.mul_le_mul_of_nonneg_left w1 x0
  have := h.le
  grind
theorem In.half {D M : Nat} {q : Rat} (h : In D M q) : In (D * 2) M (q * (1 / 2)) := by
  have := h.divN (w := 2) (by decide)
  have e : q / ((2 : Nat) : Rat) = q * (1 / 2) := by push_cast; grind
  rw [e] at this
  exact this
/-- the point on a line, its size -/
theorem In.onl {E M B : Nat} {g tl tu l u : Rat} (h0 : 0 < E) (hg : In E B g) (htl : In E B tl) (htu : In E B tu) (hl : In E M l) (hu : In E M u) (h1 : tl < g) (h2 : g ≤ tu) (h3 : l ≤ u) :
    ∃ X, 0 < X ∧ E ∣ X ∧ X ≤ E * (B * E) ∧ In X M (l + (g - tl) * (u - l) / (tu - tl)) ∧ In E B (g - tl) ∧ In E B (tu - tl) ∧ In E M (u - l) := by
  have ig := hg.sub htl (by grind)
  have ir := htu.sub htl (by grind)
  have iu := hu.sub hl h3
  obtain ⟨n1, e1⟩ := ig.ex
  obtain ⟨n3, e3⟩ := ir.ex
  obtain ⟨n2, e2⟩ := iu.ex
  obtain ⟨n0, e0⟩ := hl.ex
  have E0 := natP h0
  have r0 : 0 < tu - tl := by grind
  have n30 : 0 < n3 := by
    have h := Rat.mul_pos r0 E0
    rw [e3] at h
    exact_mod_cast h
  have n3m : n3 ≤ ((B * E : Nat) : Int) := by
    have h : (tu - tl) * (E : Rat) ≤ (B : Rat) * (E : Rat) := Rat.mul_le_mul_of_nonneg_right ir.le (by grind)
    rw [e3] at h
    have h2 : ((n3 : Int) : Rat) ≤ (((B * E : Nat) : Int) : Rat) := by push_cast; exact h
    exact_mod_cast h2
  have en : ((n3.toNat : Nat) : Int) = n3 := by omega
  have eq : ((n3.toNat : Nat) : Rat) = (n3 : Rat) := by rw [← en]; norm_cast
  refine ⟨E * n3.toNat, Nat.mul_pos h0 (by omega), Nat.dvd_mul_right _ _, Nat.mul_le_mul_left _ (by omega), ?_, ig, ir, iu⟩
  obtain ⟨y, ey⟩ : ∃ y, y = (g - tl) * (u - l) / (tu - tl) := ⟨_, rfl⟩
  have ey2 : y * (tu - tl) = (g - tl) * (u - l) := by rw [ey]; grind
  rw [← ey]
  have y0 : 0 ≤ y := by
    refine Rat.not_lt.mp fun z => ?_
    have h1 := Rat.mul_pos (a := -y) (b := tu - tl) (by grind) r0
    have h2 := Rat.mul_nonneg ig.nn iu.nn
    grind
  have y1 : y ≤ u - l := by
    refine Rat.not_lt.mp fun z => ?_
    have h1 := Rat.mul_pos (a := y - (u - l)) (b := tu - tl) (by grind) r0
    have h2 := Rat.mul_nonneg (a := tu - g) (b := u - l) (by grind) iu.nn
    grind
  refine ⟨by have := hl.nn; grind, by have := hu.le; grind, n0 * n3 + n1 * n2, ?_⟩
  have h5 : y * (E : Rat) * (n3 : Rat) = (n1 : Rat) * (n2 : Rat) := by
    rw [← e3, ← e1, ← e2]
    grind
  push_cast
  rw [eq, ← e0]
  grind

theorem sumQ_map_perm {rows rows' : List Row} (p : rows.Perm rows') (x : Rat) : tot rows x = tot rows' x := sumQ_perm (p.map fun r => r.at_ x)
theorem tot_perm {rows rows' : List Row} (p : rows.Perm rows') : tot rows = tot rows' := funext (sumQ_map_perm p)
/-- what a row may be -/
structure RowOk (D M : Nat) (r : Row) : Prop where
  w0 : 0 < r.w
  w12 : r.w ≤ 12
  b : In D M r.b
  m : ∀ l u, r.man = some (l, u) → In D M l ∧ In D M u
theorem RowOk.up {D D' M : Nat} {r : Row} (h : RowOk D M r) (hd : D ∣ D') : RowOk D' M r := ⟨h.w0, h.w12, h.b.up hd, fun l u e => ⟨(h.m l u e).1.up hd, (h.m l u e).2.up hd⟩⟩
theorem shq_in {X M N w : Nat} {man : Option (Rat × Rat)} {x : Rat} (hm : ∀ l u, man = some (l, u) → In X M l ∧ In X M u) (hx : In X N x) : In X M (shq man w x) := by
  cases man with
  | none => exact In.zero
  | some p =>
    obtain ⟨l, u⟩ := p
    obtain ⟨h1, h2⟩ := hm l u rfl
    exact h1.lmax (h2.lmin1 (hx.mulN w))
theorem RowOk.at_ {X M N : Nat} {r : Row} {x : Rat} (h : RowOk X M r) (hx : In X N x) : In X M (r.at_ x) := shq_in h.m (hx.lmin h.b)
theorem tot_in {X M N : Nat} {x : Rat} (hx : In X N x) : ∀ {rows : List Row}, (∀ r ∈ rows, RowOk X M r) → In X (rows.length * M) (tot rows x)
  | [], _ => In.zero
  | r :: rows, h => by
    rw [tot_cons]
    have h1 := (h r List.mem_cons_self).at_ hx
    have h2 := tot_in hx (rows := rows) fun r hr => h r (List.mem_cons_of_mem _ hr)
    have h3 := h1.add h2
    rw [List.length_cons, Nat.add_mul, Nat.one_mul, Nat.add_comm]
    exact h3
theorem in_brk {D M : Nat} {r : Row} (h : RowOk D M r) : ∀ p ∈ r.brk, In (D * 27720) M p := by
  have hw : D * r.w ∣ D * 27720 := Nat.mul_dvd_mul_left D (by
    have a := h.w0
    have b := h.w12
    generalize r.w = w at a b
    have : w = 1 ∨ w = 2 ∨ w = 3 ∨ w = 4 ∨ w = 5 ∨ w = 6 ∨ w = 7 ∨ w = 8 ∨ w = 9 ∨ w = 10 ∨ w = 11 ∨ w = 12 := by omega
    rcases this with rfl | rfl | rfl | rfl | rfl | rfl | rfl | rfl | rfl | rfl | rfl | rfl <;> decide)
  intro p hp
  unfold Row.brk at hp
  split at hp
  · rw [List.mem_singleton.mp hp]
    exact h.b.up (Nat.dvd_mul_right _ _)
  · rename_i l u e
    obtain ⟨h1, h2⟩ := h.m l u e
    simp only [List.mem_cons, List.not_mem_nil, or_false] at hp
    rcases hp with rfl | rfl | rfl
    · exact (h1.divN h.w0).up hw
    · exact (h2.divN h.w0).up hw
    · exact h.b.up (Nat.dvd_mul_right _ _)
end Yk

set_option maxHeartbeats 4000000
namespace Yk
open PySem PySem.Spec PyProof.Rows L2

section
variable {K : PySem.W.Frag} {H H1 : Hp} {Q : VK}
def ManIs (K : PySem.W.Frag) (H : Hp) (v : V) : Option (Rat × Rat) → Prop
  | none => ∃ a, v = .ref a ∧ SqT K H a []
  | some p => ∃ a v1 v2, v = .ref a ∧ SqT K H a [v1, v2] ∧ Am K H v1 p.1 ∧ Am K H v2 p.2
theorem ManIs.x {S : List Addr} {v : V} {man : Option (Rat × Rat)} (e : Ext S H H1) (h : ManIs K H v man) (hs : ∀ b ∈ S, ∃ l, H b = some (.lst l)) : ManIs K H1 v man := by
  cases man with
  | none => obtain ⟨a, rfl, h⟩ := h; exact ⟨a, rfl, tupX e h hs⟩
  | some p => obtain ⟨a, v1, v2, rfl, h, a1, a2⟩ := h; exact ⟨a, v1, v2, rfl, tupX e h hs, a1.x e hs, a2.x e hs⟩
theorem ManIs.x0 {v : V} {man : Option (Rat × Rat)} (e : Ext [] H H1) (h : ManIs K H v man) : ManIs K H1 v man := h.x e fun _ z => nomatch z
def RowIs (K : PySem.W.Frag) (H : Hp) (v : V) (r : Row) : Prop := ∃ a mv bv, v = .ref a ∧ SqT K H a [mv, .int (r.w : Int), bv] ∧ ManIs K H mv r.man ∧ Am K H bv r.b
theorem RowIs.x {S : List Addr} {v : V} {r : Row} (e : Ext S H H1) (h : RowIs K H v r) (hs : ∀ b ∈ S, ∃ l, H b = some (.lst l)) : RowIs K H1 v r := by
  obtain ⟨a, mv, bv, rfl, h, h1, h2⟩ := h
  exact ⟨a, mv, bv, rfl, tupX e h hs, h1.x e hs, h2.x e hs⟩
theorem RowIs.x0 {v : V} {r : Row} (e : Ext [] H H1) (h : RowIs K H v r) : RowIs K H1 v r := h.x e fun _ z => nomatch z
def RowsIs (K : PySem.W.Frag) (H : Hp) (xs : List V) (rows : List Row) : Prop := Rel (RowIs K H) xs rows
theorem RowsIs.x {S : List Addr} {xs : List V} {rows : List Row} (e : Ext S H H1) (h : RowsIs K H xs rows) (hs : ∀ b ∈ S, ∃ l, H b = some (.lst l)) : RowsIs K H1 xs rows := h.imp fun _ _ z => z.x e hs
theorem RowsIs.x0 {xs : List V} {rows : List Row} (e : Ext [] H H1) (h : RowsIs K H xs rows) : RowsIs K H1 xs rows := h.imp fun _ _ z => z.x0 e
theorem bagS {b : Bag} (hb : BagAt K H b) : ∀ c ∈ [b.a], ∃ l, H c = some (.lst l) := fun c hc => by rw [List.mem_singleton.mp hc]; exact hb.lst
theorem lstS1 {c : Addr} {l : List V} (h : H c = some (.lst l)) : ∀ x ∈ [c], ∃ l, H x = some (.lst l) := fun x hx => by rw [List.mem_singleton.mp hx]; exact ⟨l, h⟩
theorem extW {c : Addr} {o : HO} : Ext [c] H (upd H c o) := Ext.refl.at_ List.mem_cons_self
theorem Am.w {c : Addr} {l l' : List V} {v : V} {q : Rat} (h : H c = some (.lst l)) (a : Am K H v q) : Am K (upd H c (.lst l')) v q := a.x extW (lstS1 h)
theorem Ams.w {c : Addr} {l l' : List V} {v : List V} {q : List Rat} (h : H c = some (.lst l)) (a : Ams K H v q) : Ams K (upd H c (.lst l')) v q := a.x extW (lstS1 h)
theorem RowIs.w {c : Addr} {l l' : List V} {v : V} {r : Row} (h : H c = some (.lst l)) (a : RowIs K H v r) : RowIs K (upd H c (.lst l')) v r := a.x extW (lstS1 h)
theorem RowsIs.w {c : Addr} {l l' : List V} {v : List V} {r : List Row} (h : H c = some (.lst l)) (a : RowsIs K H v r) : RowsIs K (upd H c (.lst l')) v r := a.x extW (lstS1 h)
/-! equality -/
theorem dp_am {v : V} {q : Rat} (h : Am K H v q) : Dp K H v (.tuple [.int q.num, .int (q.den : Int)]) := by
  obtain ⟨a, rfl, h⟩ := h
  exact .tup h (.cons (.int _) (.cons (.int _) .nil))
theorem rat_eq {p q : Rat} : p = q ↔ p.num = q.num ∧ p.den = q.den := ⟨fun h => by rw [h]; exact ⟨rfl, rfl⟩, fun h => Rat.ext h.1 h.2⟩
theorem eq_am {v w : V} {p q : Rat} (h : Am K H v p) (g : Am K H w q) (k : Q (.bl (decide (p = q))) H) : rEqD K v w H Q := by
  refine ⟨_, _, dp_am h, dp_am g, rfl, rfl, ?_⟩
  have e : PyData.eqv (.tuple [.int p.num, .int (p.den : Int)]) (.tuple [.int q.num, .int (q.den : Int)]) = decide (p = q) := by
    rw [Bool.eq_iff_iff]
    simp [PyData.eqv, PyData.eqvAll, rat_eq]
    omega
  rw [e]
  exact k
theorem ne_am {v w : V} {p q : Rat} (h : Am K H v p) (g : Am K H w q) (k : Q (.bl (!decide (p = q))) H) : rNeD K v w H Q := by
  refine ⟨_, _, dp_am h, dp_am g, rfl, rfl, ?_⟩
  have e : PyData.eqv (.tuple [.int p.num, .int (p.den : Int)]) (.tuple [.int q.num, .int (q.den : Int)]) = decide (p = q) := by
    rw [Bool.eq_iff_iff]
    simp [PyData.eqv, PyData.eqvAll, rat_eq]
    omega
  rw [e]
  exact k
theorem eq_man {v : V} {man : Option (Rat × Rat)} {p : Addr} (h : ManIs K H v man) (g : SqT K H p []) (k : Q (.bl man.isNone) H) : rEqD K v (.ref p) H Q := by
  cases man with
  | none => obtain ⟨a, rfl, h⟩ := h; exact ⟨.tuple [], .tuple [], .tup h .nil, .tup g .nil, rfl, rfl, k⟩
  | some q => obtain ⟨a, v1, v2, rfl, h, a1, a2⟩ := h; exact ⟨_, .tuple [], .tup h (.cons (dp_am a1) (.cons (dp_am a2) .nil)), .tup g .nil, rfl, rfl, k⟩
theorem ne_man {v : V} {man : Option (Rat × Rat)} {p : Addr} (h : ManIs K H v man) (g : SqT K H p []) (k : Q (.bl (!man.isNone)) H) : rNeD K v (.ref p) H Q := by
  cases man with
  | none => obtain ⟨a, rfl, h⟩ := h; exact ⟨.tuple [], .tuple [], .tup h .nil, .tup g .nil, rfl, rfl, k⟩
  | some q => obtain ⟨a, v1, v2, rfl, h, a1, a2⟩ := h; exact ⟨_, .tuple [], .tup h (.cons (dp_am a1) (.cons (dp_am a2) .nil)), .tup g .nil, rfl, rfl, k⟩
theorem am_nat {a : Addr} {w : Nat} (h : SqT K H a [.int (w : Int), .int 1]) : Am K H (.ref a) (w : Rat) := ⟨a, rfl, h⟩
theorem sz_nat {w m : Nat} (h : w < 2 ^ m) (h0 : 0 < m) : Sz m (w : Rat) := ⟨h, Nat.lt_of_lt_of_le (by decide : 1 < 2 ^ 1) (Nat.pow_le_pow_right (by decide) h0)⟩
theorem mk_w (w : Nat) {q : Rat} (h : 0 ≤ q) : mkRat ((w * q.num.toNat : Nat) : Int) q.den = (w : Rat) * q := by
  have hn := num_nn h
  have e : ((w * q.num.toNat : Nat) : Int) = (w : Int) * q.num := by push_cast; rw [Int.toNat_of_nonneg hn]
  rw [e, Rat.mkRat_eq_div]
  have hd := natP q.den_pos
  have e2 : (q.num : Rat) / (q.den : Rat) = q := by rw [← Rat.mkRat_eq_div]; exact Rat.mkRat_self q
  push_cast
  grind
theorem maxQ1 (a b : Rat) : maxQ a [b] = lmax a b := (lmax_eq a b).symm
theorem minQ1 (a b : Rat) : minQ a [b] = lmin a b := rfl
theorem lmin_comm (a b : Rat) : lmin a b = lmin b a := by unfold lmin; grind
theorem lmax_comm (a b : Rat) : lmax a b = lmax b a := by unfold lmax; grind
theorem k_min2 {v w : V} {p q : Rat} {E : XK} (a : Am K H v p) (b : Am K H w q) (z1 : Sz 4000 p) (z2 : Sz 4000 q) (k : ∀ v H', Ext [] H H' → Am K H' v (lmin p q) → Q v H') : spMin minQ K [v, w] H Q E :=
  ⟨p, [q], Ams.cons a (Ams.cons b Ams.nil), fun x hx => by
    rcases List.mem_cons.mp hx with rfl | hx
    · exact z1
    · rw [List.mem_singleton.mp hx]; exact z2, by simp, k⟩
theorem k_max2 {v w : V} {p q : Rat} {E : XK} (a : Am K H v p) (b : Am K H w q) (z1 : Sz 4000 p) (z2 : Sz 4000 q) (k : ∀ v H', Ext [] H H' → Am K H' v (lmax p q) → Q v H') : spMin maxQ K [v, w] H Q E :=
  ⟨p, [q], Ams.cons a (Ams.cons b Ams.nil), fun x hx => by
    rcases List.mem_cons.mp hx with rfl | hx
    · exact z1
    · rw [List.mem_singleton.mp hx]; exact z2, by simp, fun v H' e c => k v H' e (by rw [← maxQ1]; exact c)⟩
theorem sz_min {m : Nat} {p q : Rat} (h : Sz m p) (g : Sz m q) : Sz m (lmin p q) := by unfold lmin; split <;> assumption
theorem sz_max {m : Nat} {p q : Rat} (h : Sz m p) (g : Sz m q) : Sz m (lmax p q) := by unfold lmax; split <;> assumption
end
section
variable {P : Program} {w : World} {K : PySem.W.Frag} {mg : Str → Option Value} {base : Heap} {f : Addr} {fd : FuncData}
def ManSz (n : Nat) (man : Option (Rat × Rat)) : Prop := ∀ l u, man = some (l, u) → Sz n l ∧ Sz n u
def spShare (K : PySem.W.Frag) : Sp := fun vs H Q _ => ∃ (m x : V) (wt : Nat) (man : Option (Rat × Rat)) (q : Rat), vs = [m, .int (wt : Int), x] ∧ ManIs K H m man ∧ Am K H x q ∧ wt ≤ 12 ∧ ManSz 2000 man ∧ Sz 2000 q ∧ RetAm K H Q (shq man wt q)
/-- rows of shares, carried through a list of them -/
theorem rowSz {X M j m : Nat} {r : Row} (h : RowOk X M r) (h0 : 0 < X) (hX : X ≤ 2 ^ j) (hM : M ≤ 2 ^ m) : ManSz (j + m + 1) r.man ∧ Sz (j + m + 1) r.b := ⟨fun l u e => ⟨(h.m l u e).1.sz h0 hX hM, (h.m l u e).2.sz h0 hX hM⟩, h.b.sz h0 hX hM⟩
/-- amounts in the row, all in step -/
structure TotOk (X M N : Nat) (rows : List Row) (x : Rat) : Prop where
  X0 : 0 < X
  X9 : X ≤ 2 ^ 400
  M9 : M ≤ 2 ^ 20
  N9 : N ≤ 2 ^ 120
  row : ∀ r ∈ rows, RowOk X M r
  x : In X N x
  n : rows.length ≤ 8
def spTotal (K : PySem.W.Frag) : Sp := fun vs H Q _ => ∃ (a : Addr) (xs : List V) (rows : List Row) (v : V) (x : Rat) (X M N : Nat), vs = [.ref a, v] ∧ SqQ K H a xs ∧ RowsIs K H xs rows ∧ Am K H v x ∧ TotOk X M N rows x ∧ RetAm K H Q (tot rows x)
theorem take_map {α : Type} {f : Row → α} {rows : List Row} {i : Nat} {r : Row} (h : rows[i]? = some r) : (rows.take (i + 1)).map f = (rows.take i).map f ++ [f r] := by
  obtain ⟨hl, e⟩ := List.getElem?_eq_some_iff.mp h
  rw [← List.take_append_getElem hl, List.map_append, e]
  rfl
end
end Yk

set_option maxHeartbeats 4000000
namespace Yk
open PySem PySem.Spec PyProof.Rows L2
/-! Dicts: the general part. What stands through a lock, walks over keys, values and items, comprehensions; tables. -/
/-! What stands through the lock of a dict. -/
theorem tupD {K : PySem.W.Frag} {H H1 : Hp} {a t : Addr} {kv : List (Key × V)} {xs : List V} (e : Ext [a] H H1) (ha : H a = some (.dK kv)) (h : SqT K H t xs) : SqT K H1 t xs := by
  have ne : ∀ o, H t = some o → (∀ kv, o ≠ .dK kv) → t ∉ [a] := fun o ho hn z => by
    rw [List.mem_singleton.mp z, ha] at ho
    exact hn _ (Option.some.inj ho).symm
  rcases h with (h | ⟨o, h⟩) | h
  · exact .inl (.inl (e _ _ h (ne _ h fun _ z => nomatch z)))
  · exact .inl (.inr ⟨o, e _ _ h (ne _ h fun _ z => nomatch z)⟩)
  · exact .inr h
theorem Am.d {K : PySem.W.Frag} {H H1 : Hp} {a : Addr} {kv : List (Key × V)} {v : V} {q : Rat} (e : Ext [a] H H1) (ha : H a = some (.dK kv)) (h : Am K H v q) : Am K H1 v q := by
  obtain ⟨t, rfl, h⟩ := h
  exact ⟨t, rfl, tupD e ha h⟩
theorem sqqD {K : PySem.W.Frag} {H H1 : Hp} {a t : Addr} {kv : List (Key × V)} {xs : List V} (e : Ext [a] H H1) (ha : H a = some (.dK kv)) (h : SqQ K H t xs) : SqQ K H1 t xs := by
  rcases h with h | h
  · refine .inl ?_
    have ne : ∀ o, H t = some o → (∀ kv, o ≠ .dK kv) → t ∉ [a] := fun o ho hn z => by
      rw [List.mem_singleton.mp z, ha] at ho
      exact hn _ (Option.some.inj ho).symm
    rcases h with (h | ⟨o, h⟩) | h
    · exact .inl (.inl (e _ _ h (ne _ h fun _ z => nomatch z)))
    · exact .inl (.inr ⟨o, e _ _ h (ne _ h fun _ z => nomatch z)⟩)
    · exact .inr h
  · exact .inr (tupD e ha h)
theorem Ams.d {K : PySem.W.Frag} {H H1 : Hp} {a : Addr} {kv : List (Key × V)} {vs : List V} {qs : List Rat} (e : Ext [a] H H1) (ha : H a = some (.dK kv)) (h : Ams K H vs qs) : Ams K H1 vs qs := ⟨h.1, fun i v q a b => (h.2 i v q a b).d e ha⟩
/-- no tuple stands at these -/
def NoTup (H : Hp) (S : List Addr) : Prop := ∀ b ∈ S, ∃ o, H b = some o ∧ (∀ xs, o ≠ .tup xs) ∧ ∀ u xs, o ≠ .frz u (.tup xs)
theorem tupF {S : List Addr} {K : PySem.W.Frag} {H H1 : Hp} {a : Addr} {xs : List V} (e : Ext S H H1) (h : SqT K H a xs) (hs : NoTup H S) : SqT K H1 a xs := by
  rcases h with (h | ⟨o, h⟩) | h
  · exact .inl (.inl (e a _ h fun z => by obtain ⟨o, q, n, _⟩ := hs a z; rw [h] at q; cases q; exact n _ rfl))
  · exact .inl (.inr ⟨o, e a _ h fun z => by obtain ⟨o, q, _, n⟩ := hs a z; rw [h] at q; cases q; exact n _ _ rfl⟩)
  · exact .inr h
theorem Am.f {S : List Addr} {K : PySem.W.Frag} {H H1 : Hp} {v : V} {q : Rat} (e : Ext S H H1) (hs : NoTup H S) (h : Am K H v q) : Am K H1 v q := by
  obtain ⟨a, rfl, h⟩ := h
  exact ⟨a, rfl, tupF e h hs⟩
/-- no list stands at these -/
def NoLst (H : Hp) (S : List Addr) : Prop := ∀ b ∈ S, ∃ o, H b = some o ∧ (∀ xs, o ≠ .lst xs) ∧ ∀ u xs, o ≠ .frz u (.lst xs)
theorem lstF {S : List Addr} {K : PySem.W.Frag} {H H1 : Hp} {a : Addr} {xs : List V} (e : Ext S H H1) (h : SqL K H a xs) (hs : NoLst H S) : SqL K H1 a xs := by
  rcases h with (h | ⟨o, h⟩) | h
  · exact .inl (.inl (e a _ h fun z => by obtain ⟨o, q, n, _⟩ := hs a z; rw [h] at q; cases q; exact n _ rfl))
  · exact .inl (.inr ⟨o, e a _ h fun z => by obtain ⟨o, q, _, n⟩ := hs a z; rw [h] at q; cases q; exact n _ _ rfl⟩)
  · exact .inr h
theorem BagAt.f {S : List Addr} {K : PySem.W.Frag} {H H1 : Hp} {b : Bag} (h : BagAt K H b) (e : Ext S H H1) (hs : NoLst H S) : BagAt K H1 b := by
  obtain ⟨l, h1, h2, h3, h4⟩ := h.ex
  exact ⟨l, e _ _ h1 fun z => (by obtain ⟨o, q, n, _⟩ := hs _ z; rw [h1] at q; cases q; exact n _ rfl), lstF e h2 hs, h3, h4⟩
theorem no_ins {H : Hp} {a C dx : Addr} {fs : List (Str × V)} (h : H a = some (.ins C dx fs)) : NoTup H [a] ∧ NoLst H [a] :=
  ⟨fun b hb => by rw [List.mem_singleton.mp hb]; exact ⟨_, h, (fun _ z => nomatch z), fun _ _ z => nomatch z⟩, fun b hb => by rw [List.mem_singleton.mp hb]; exact ⟨_, h, (fun _ z => nomatch z), fun _ _ z => nomatch z⟩⟩
theorem no_dk {H : Hp} {a : Addr} {l : List (Key × V)} (h : H a = some (.dK l)) : NoTup H [a] ∧ NoLst H [a] :=
  ⟨fun b hb => by rw [List.mem_singleton.mp hb]; exact ⟨_, h, (fun _ z => nomatch z), fun _ _ z => nomatch z⟩, fun b hb => by rw [List.mem_singleton.mp hb]; exact ⟨_, h, (fun _ z => nomatch z), fun _ _ z => nomatch z⟩⟩
theorem no_lst {H : Hp} {a : Addr} {l : List V} (h : H a = some (.lst l)) : NoTup H [a] := fun b hb => by rw [List.mem_singleton.mp hb]; exact ⟨_, h, (fun _ z => nomatch z), fun _ _ z => nomatch z⟩
theorem NoTup.app {H : Hp} {S T : List Addr} (h : NoTup H S) (g : NoTup H T) : NoTup H (S ++ T) := fun b hb => (List.mem_append.mp hb).elim (h b) (g b)
/-- a table by keys -/
def gv {κ α : Type} [DecidableEq κ] (c : List (κ × α)) (k : κ) : Option α := (c.find? fun p => decide (p.1 = k)).map (·.2)
def gp {κ α : Type} [DecidableEq κ] (c : List (κ × α)) (k : κ) (y : α) : List (κ × α) := if (c.any fun p => decide (p.1 = k)) = true then c.map (fun p => if p.1 = k then (p.1, y) else p) else c ++ [(k, y)]
/-- two tables with the same keys, their values alike -/
inductive TR {κ α : Type} (R : V → α → Prop) : List (κ × V) → List (κ × α) → Prop
  | nil : TR R [] []
  | cons {k : κ} {v : V} {y : α} {l : List (κ × V)} {c : List (κ × α)} : R v y → TR R l c → TR R ((k, v) :: l) ((k, y) :: c)
section
variable {κ α : Type} [DecidableEq κ] {R R' : V → α → Prop} {l : List (κ × V)} {c : List (κ × α)} {k : κ} {v : V} {y : α}
theorem TR.imp (f : ∀ v y, R v y → R' v y) (h : TR R l c) : TR R' l c := by
  induction h with
  | nil => exact .nil
  | cons a _ ih => exact .cons (f _ _ a) ih
theorem TR.len (h : TR R l c) : l.length = c.length := by
  induction h with
  | nil => rfl
  | cons a _ ih => simp [ih]
theorem TR.val (h : TR R l c) (k : κ) : (valV l k = none ∧ gv c k = none) ∨ ∃ v y, valV l k = some v ∧ gv c k = some y ∧ R v y := by
  induction h with
  | nil => exact .inl ⟨rfl, rfl⟩
  | @cons k' v y l c a _ ih =>
    by_cases e : k' = k
    · subst e
      exact .inr ⟨v, y, valV_pos rfl, by simp [gv], a⟩
    · have e1 : gv ((k', y) :: c) k = gv c k := by simp [gv, List.find?_cons, e]
      rw [valV_neg (p := (k', v)) e, e1]
      exact ih
theorem TR.any (h : TR R l c) (k : κ) : (l.any fun p => decide (p.1 = k)) = (c.any fun p => decide (p.1 = k)) := by
  induction h with
  | nil => rfl
  | cons a _ ih => rw [List.any_cons, List.any_cons, ih]
theorem TR.repl (h : TR R l c) (a : R v y) : TR R (l.map fun kv => if kv.1 = k then (kv.1, v) else kv) (c.map fun p => if p.1 = k then (p.1, y) else p) := by
  induction h with
  | nil => exact .nil
  | @cons k' v' y' l c b _ ih =>
    rw [List.map_cons, List.map_cons]
    by_cases e : k' = k
    · rw [if_pos e, if_pos e]; exact .cons a ih
    · rw [if_neg e, if_neg e]; exact .cons b ih
theorem TR.app {l2 : List (κ × V)} {c2 : List (κ × α)} (h : TR R l c) (g : TR R l2 c2) : TR R (l ++ l2) (c ++ c2) := by
  induction h with
  | nil => exact g
  | cons b _ ih => exact .cons b ih
theorem TR.put (h : TR R l c) (a : R v y) : TR R (putK l k v) (gp c k y) := by
  unfold putK gp
  rw [h.any k]
  split
  · exact h.repl a
  · exact h.app (.cons a .nil)
end
section
variable {K : PySem.W.Frag} {H : Hp} {Q : VK} {σ : L2.St} {wi : TI} {g : TG} {tt : TT} {tk tv td ty : TE} {vs : List Nat}
theorem r_dget (h : td σ H fun x H1 => ty σ H1 fun y H2 => ∃ a v, x = .ref a ∧ DGet H2 a y (some v) ∧ Q v H2) : tDGet td ty σ H Q := h
theorem r_dc (h : wi σ H fun J H1 => ∀ D, H1 D = none → ∃ W : Nat → Nat → Hp → Prop, (∃ m, W 0 m (upd H1 D (.dK []))) ∧ ∀ i m H, W i m H →
  (J.stop i H ∧ Q (.ref D) H) ∨ (J.go i H ∧ ∃ Nx : Hp → Prop, (∀ H', Nx H' → ∃ m', m' < m ∧ W (i + 1) m' H') ∧ ∀ x H', J.yld i H x H' → g x (wipe σ vs) H' fun σ2 H2 => wipe σ2 vs = wipe σ vs ∧ tt σ2 H2 fun b H3 =>
    if b = true then tk σ2 H3 fun y H4 => tv σ2 H4 fun z H5 => ∃ kvs k, y = kV k ∧ H5 D = some (.dK kvs) ∧ kvs.length < sizeLine ∧ Nx (upd H5 D (.dK (putK kvs k z))) else Nx H3)) : tDc wi g tt tk tv vs σ H Q := h
theorem r_dcL {a : Addr} {xs : List V} {D : Addr} {Qd : Hp → Prop} (Pv : Nat → Hp → Prop) (h0 : Pv 0 (upd H D (.dK []))) (hl : ∀ i H, i ≤ xs.length → Pv i H → SqL K H a xs)
    (hs : ∀ i x H, xs[i]? = some x → Pv i H → g x (wipe σ vs) H fun σ2 H2 => wipe σ2 vs = wipe σ vs ∧ tt σ2 H2 fun b H3 =>
      if b = true then tk σ2 H3 fun y H4 => tv σ2 H4 fun z H5 => ∃ kvs k, y = kV k ∧ H5 D = some (.dK kvs) ∧ kvs.length < sizeLine ∧ Pv (i + 1) (upd H5 D (.dK (putK kvs k z))) else Pv (i + 1) H3) (hd : ∀ H, Pv xs.length H → Qd H) :
    ∃ W : Nat → Nat → Hp → Prop, (∃ m, W 0 m (upd H D (.dK []))) ∧ ∀ i m H, W i m H →
      ((Itl K a).stop i H ∧ Qd H) ∨ ((Itl K a).go i H ∧ ∃ Nx : Hp → Prop, (∀ H', Nx H' → ∃ m', m' < m ∧ W (i + 1) m' H') ∧ ∀ x H', (Itl K a).yld i H x H' → g x (wipe σ vs) H' fun σ2 H2 => wipe σ2 vs = wipe σ vs ∧ tt σ2 H2 fun b H3 =>
        if b = true then tk σ2 H3 fun y H4 => tv σ2 H4 fun z H5 => ∃ kvs k, y = kV k ∧ H5 D = some (.dK kvs) ∧ kvs.length < sizeLine ∧ Nx (upd H5 D (.dK (putK kvs k z))) else Nx H3) := by
  refine ⟨fun i m H => m = xs.length - i ∧ i ≤ xs.length ∧ Pv i H, ⟨xs.length, by simp, Nat.zero_le _, h0⟩, ?_⟩
  rintro i m H ⟨rfl, hi, p⟩
  have q := hl i H hi p
  by_cases hlt : i < xs.length
  · refine .inr ⟨⟨xs, xs[i], q, by simp [hlt]⟩, Pv (i + 1), fun H' p' => ⟨xs.length - (i + 1), by omega, rfl, hlt, p'⟩, fun x H' y => ?_⟩
    obtain ⟨e, y⟩ := y
    subst e
    exact hs i x _ (y xs q) p
  · have e : i = xs.length := by omega
    subst e
    exact .inl ⟨⟨xs, q, Nat.le_refl _⟩, hd H p⟩
end
section
variable {nx : L2.St → Hp → Prop} {rt : VK} {bk ct : L2.St → Hp → Prop} {σ : L2.St} {H : Hp} {g : TG} {t : TS} {td ty : TE} {Q : VK}
theorem r_lock {d : Addr} {kv : List (Key × V)} (hd : H d = some (.dK kv)) (h : ∀ od, t ⟨fun σ' H' => H' d = some (.frz od (.dK kv)) ∧ nx σ' (upd H' d (.dK kv)), fun v H' => H' d = some (.frz od (.dK kv)) ∧ rt v (upd H' d (.dK kv)), fun σ' H' => H' d = some (.frz od (.dK kv)) ∧ bk σ' (upd H' d (.dK kv)), fun σ' H' => H' d = some (.frz od (.dK kv)) ∧ ct σ' (upd H' d (.dK kv))⟩ σ (upd H d (.frz od (.dK kv)))) :
    tLock t ⟨nx, rt, bk, ct⟩ σ H := ⟨d, _, hd, trivial, h⟩
theorem r_iVals {R : It → Hp → Prop} (h : td σ H fun x H1 => ∃ d o kvs, x = .ref d ∧ H1 d = some (.frz o (.dK kvs)) ∧ R (Itd d o kvs) H1) : iVals td σ H R := h
theorem r_dnotin (h : ty σ H fun y H1 => td σ H1 fun x H2 => ∃ a o, x = .ref a ∧ DGet H2 a y o ∧ Q (.bl (!o.isSome)) H2) : tDNotIn ty td σ H Q := h
theorem r_din (h : ty σ H fun y H1 => td σ H1 fun x H2 => ∃ a o, x = .ref a ∧ DGet H2 a y o ∧ Q (.bl o.isSome) H2) : tDIn ty td σ H Q := h
theorem r_loopD {d : Addr} {o : Obj} {kv : List (Key × V)} (Pv : Nat → L2.St → Hp → Prop) (h0 : Pv 0 σ H) (hl : ∀ i σ H, i ≤ kv.length → Pv i σ H → H d = some (.frz o (.dK kv)))
    (hs : ∀ (i : Nat) (k : Key) (x : V) (σ : L2.St) (H : Hp), kv[i]? = some (k, x) → Pv i σ H → g x σ H fun σ2 H2 => t ⟨Pv (i + 1), rt, nx, Pv (i + 1)⟩ σ2 H2) (hd : ∀ σ H, Pv kv.length σ H → nx σ H) :
    ∃ W : Nat → Nat → L2.St → Hp → Prop, (∃ m, W 0 m σ H) ∧ ∀ i m σ H, W i m σ H →
      ((Itd d o kv).stop i H ∧ nx σ H) ∨ ((Itd d o kv).go i H ∧ ∃ N : L2.St → Hp → Prop, (∀ σ' H', N σ' H' → ∃ m', m' < m ∧ W (i + 1) m' σ' H') ∧ ∀ x H', (Itd d o kv).yld i H x H' → g x σ H' fun σ2 H2 => t ⟨N, rt, nx, N⟩ σ2 H2) :=
  for_it (D := ⟨nx, rt, nx, nx⟩) walk_values Pv h0 hl (fun i x σ H H' _ p y => by
    obtain ⟨rfl, k, hk⟩ := y
    exact hs i k x σ _ hk p) hd
/-- a dict that was locked stands as before -/
theorem ext_unlock {d : Addr} {u : HO} {H1 : Hp} (hd : H d = some u) (e : Ext [d] H H1) : Ext [] H (upd H1 d u) := fun b o hb _ => by
  by_cases q : d = b
  · subst q
    rw [hd] at hb
    rw [upd_same]
    exact hb
  · rw [upd_ne (Ne.symm q)]
    exact e b o hb fun z => q (List.mem_singleton.mp z).symm
end
section
variable {K : PySem.W.Frag} {H : Hp} {Q : VK} {σ : L2.St} {td : TE} {te : TE} {g : TG} {tt : TT} {vs : List Nat}
theorem r_lockE {t : TE} {d : Addr} {kv : List (Key × V)} (hd : H d = some (.dK kv)) (h : ∀ od, t σ (upd H d (.frz od (.dK kv))) fun v H' => H' d = some (.frz od (.dK kv)) ∧ Q v (upd H' d (.dK kv))) : tLockE t σ H Q := ⟨d, _, hd, trivial, h⟩
theorem r_iItems {R : It → Hp → Prop} (h : td σ H fun x H1 => ∃ d o kvs, x = .ref d ∧ H1 d = some (.frz o (.dK kvs)) ∧ R (Iti d o kvs) H1) : iItems td σ H R := h
theorem r_lcI {d : Addr} {o : Obj} {kv : List (Key × V)} {D : Addr} {Qd : Hp → Prop} (Pv : Nat → Hp → Prop) (h0 : Pv 0 (upd H D (.lst []))) (hl : ∀ i H, i ≤ kv.length → Pv i H → H d = some (.frz o (.dK kv)))
    (hs : ∀ (i : Nat) (k : Key) (x : V) (T : Addr) (H : Hp), kv[i]? = some (k, x) → Pv i H → H T = none → g (.ref T) (wipe σ vs) (upd H T (.tup [kV k, x])) fun σ2 H2 => wipe σ2 vs = wipe σ vs ∧ tt σ2 H2 fun b H3 =>
      if b = true then te σ2 H3 fun y H4 => ∃ acc, H4 D = some (.lst acc) ∧ acc.length < sizeLine ∧ Pv (i + 1) (upd H4 D (.lst (acc ++ [y]))) else Pv (i + 1) H3) (hd : ∀ H, Pv kv.length H → Qd H) :
    ∃ W : Nat → Nat → Hp → Prop, (∃ m, W 0 m (upd H D (.lst []))) ∧ ∀ i m H, W i m H →
      ((Iti d o kv).stop i H ∧ Qd H) ∨ ((Iti d o kv).go i H ∧ ∃ Nx : Hp → Prop, (∀ H', Nx H' → ∃ m', m' < m ∧ W (i + 1) m' H') ∧ ∀ x H', (Iti d o kv).yld i H x H' → g x (wipe σ vs) H' fun σ2 H2 => wipe σ2 vs = wipe σ vs ∧ tt σ2 H2 fun b H3 =>
        if b = true then te σ2 H3 fun y H4 => ∃ acc, H4 D = some (.lst acc) ∧ acc.length < sizeLine ∧ Nx (upd H4 D (.lst (acc ++ [y]))) else Nx H3) :=
  lc_it walk_items Pv h0 hl (fun i x H H' hi p y => by
    obtain ⟨T, a, b, rfl, hT, rfl, ha, hb⟩ := y
    dsimp only at ha hb
    rw [List.getElem?_eq_getElem hi] at ha hb
    obtain rfl := Option.some.inj ha
    obtain rfl := Option.some.inj hb
    exact hs i kv[i].1 kv[i].2 T H (List.getElem?_eq_getElem hi) p hT) hd
end
section
variable {K : PySem.W.Frag} {nx : L2.St → Hp → Prop} {rt : VK} {σ : L2.St} {H : Hp} {g : TG} {tt : TT} {tk tv : TE} {t : TS} {vs : List Nat}
theorem r_dcK {d : Addr} {o : Obj} {kv : List (Key × V)} {D : Addr} {Qd : Hp → Prop} (Pv : Nat → Hp → Prop) (h0 : Pv 0 (upd H D (.dK []))) (hl : ∀ i H, i ≤ kv.length → Pv i H → H d = some (.frz o (.dK kv)))
    (hs : ∀ (i : Nat) (k : Key) (x : V) (H : Hp), kv[i]? = some (k, x) → Pv i H → g (kV k) (wipe σ vs) H fun σ2 H2 => wipe σ2 vs = wipe σ vs ∧ tt σ2 H2 fun b H3 =>
      if b = true then tk σ2 H3 fun y H4 => tv σ2 H4 fun z H5 => ∃ kvs k, y = kV k ∧ H5 D = some (.dK kvs) ∧ kvs.length < sizeLine ∧ Pv (i + 1) (upd H5 D (.dK (putK kvs k z))) else Pv (i + 1) H3) (hd : ∀ H, Pv kv.length H → Qd H) :
    ∃ W : Nat → Nat → Hp → Prop, (∃ m, W 0 m (upd H D (.dK []))) ∧ ∀ i m H, W i m H →
      ((Itk d o kv).stop i H ∧ Qd H) ∨ ((Itk d o kv).go i H ∧ ∃ Nx : Hp → Prop, (∀ H', Nx H' → ∃ m', m' < m ∧ W (i + 1) m' H') ∧ ∀ x H', (Itk d o kv).yld i H x H' → g x (wipe σ vs) H' fun σ2 H2 => wipe σ2 vs = wipe σ vs ∧ tt σ2 H2 fun b H3 =>
        if b = true then tk σ2 H3 fun y H4 => tv σ2 H4 fun z H5 => ∃ kvs k, y = kV k ∧ H5 D = some (.dK kvs) ∧ kvs.length < sizeLine ∧ Nx (upd H5 D (.dK (putK kvs k z))) else Nx H3) := by
  refine ⟨fun i m H => m = kv.length - i ∧ i ≤ kv.length ∧ Pv i H, ⟨kv.length, by simp, Nat.zero_le _, h0⟩, ?_⟩
  rintro i m H ⟨rfl, hi, p⟩
  have q := hl i H hi p
  by_cases hlt : i < kv.length
  · refine .inr ⟨⟨q, hlt⟩, Pv (i + 1), fun H' p' => ⟨kv.length - (i + 1), by omega, rfl, hlt, p'⟩, fun x H' y => ?_⟩
    obtain ⟨rfl, k, v, hk, rfl⟩ := y
    exact hs i k v _ hk p
  · have e : i = kv.length := by omega
    subst e
    exact .inl ⟨⟨q, Nat.le_refl _⟩, hd H p⟩
theorem r_loopI {d : Addr} {o : Obj} {kv : List (Key × V)} (Pv : Nat → L2.St → Hp → Prop) (h0 : Pv 0 σ H) (hl : ∀ i σ H, i ≤ kv.length → Pv i σ H → H d = some (.frz o (.dK kv)))
    (hs : ∀ (i : Nat) (k : Key) (x : V) (T : Addr) (σ : L2.St) (H : Hp), kv[i]? = some (k, x) → Pv i σ H → H T = none → g (.ref T) σ (upd H T (.tup [kV k, x])) fun σ2 H2 => t ⟨Pv (i + 1), rt, nx, Pv (i + 1)⟩ σ2 H2) (hd : ∀ σ H, Pv kv.length σ H → nx σ H) :
    ∃ W : Nat → Nat → L2.St → Hp → Prop, (∃ m, W 0 m σ H) ∧ ∀ i m σ H, W i m σ H →
      ((Iti d o kv).stop i H ∧ nx σ H) ∨ ((Iti d o kv).go i H ∧ ∃ N : L2.St → Hp → Prop, (∀ σ' H', N σ' H' → ∃ m', m' < m ∧ W (i + 1) m' σ' H') ∧ ∀ x H', (Iti d o kv).yld i H x H' → g x σ H' fun σ2 H2 => t ⟨N, rt, nx, N⟩ σ2 H2) := by
  refine ⟨fun i m σ H => m = kv.length - i ∧ i ≤ kv.length ∧ Pv i σ H, ⟨kv.length, by simp, Nat.zero_le _, h0⟩, ?_⟩
  rintro i m σ H ⟨rfl, hi, p⟩
  have q := hl i σ H hi p
  by_cases hlt : i < kv.length
  · refine .inr ⟨⟨q, hlt⟩, Pv (i + 1), fun σ' H' p' => ⟨kv.length - (i + 1), by omega, rfl, hlt, p'⟩, fun x H' y => ?_⟩
    obtain ⟨T, k, v, hk, rfl, hT, rfl⟩ := y
    exact hs i k v T σ _ hk p hT
  · have e : i = kv.length := by omega
    subst e
    exact .inl ⟨⟨q, Nat.le_refl _⟩, hd σ H p⟩
end
section
variable {K : PySem.W.Frag} {nx : L2.St → Hp → Prop} {rt : VK} {bk ct : L2.St → Hp → Prop} {σ : L2.St} {H : Hp} {Q : VK} {td ty tv tx : TE}
theorem r_tget1 (h : td σ H fun x H1 => ∃ a, x = .ref a ∧ IsD H1 a ∧ ty σ H1 fun y H2 => ∃ o, DGet H2 a y o ∧ Q (o.getD .non) H2) : tDGet1 td ty σ H Q := h
theorem r_tget2 (h : td σ H fun x H1 => ∃ a, x = .ref a ∧ IsD H1 a ∧ ty σ H1 fun y H2 => tx σ H2 fun z H3 => ∃ o, DGet H3 a y o ∧ Q (o.getD z) H3) : tDGet2 td ty tx σ H Q := h
theorem r_prp2 {C a dx : Addr} {fs : List (Str × V)} {R : Addr → Prop} (h1 : H a = some (.ins C dx fs)) (h : R a) : ∃ a' dx' fs', V.ref a = .ref a' ∧ H a' = some (.ins C dx' fs') ∧ R a' := ⟨a, dx, fs, rfl, h1, h⟩
theorem r_dnT (h : ∀ p, H p = none → Q (.ref p) (upd H p (.dT []))) : tDNewT σ H Q := h
theorem r_dput (h : tv σ H fun v H1 => td σ H1 fun x H2 => ty σ H2 fun y H3 => ∃ a H4, x = .ref a ∧ DPut H3 a y v H4 ∧ nx σ H4) : sDPut td ty tv ⟨nx, rt, bk, ct⟩ σ H := h
end
theorem upd_over {H : Hp} {a d : Addr} {x y z : HO} (h : d ≠ a) : upd (upd (upd H a x) d y) a z = upd (upd H d y) a z := by
  funext b
  by_cases q : b = a
  · subst q; rw [upd_same, upd_same]
  · by_cases p : b = d
    · subst p; rw [upd_ne q, upd_same, upd_ne q, upd_same]
    · rw [upd_ne q, upd_ne p, upd_ne q, upd_ne q, upd_ne p]
section
variable {K : PySem.W.Frag} {nx : L2.St → Hp → Prop} {rt : VK} {bk ct : L2.St → Hp → Prop} {σ : L2.St} {H : Hp} {Q : VK} {g : TG} {tt : TT} {tk tv te td : TE} {vs : List Nat} {ta : TA}
theorem r_dcI {d : Addr} {o : Obj} {kv : List (Key × V)} {D : Addr} {Qd : Hp → Prop} (Pv : Nat → Hp → Prop) (h0 : Pv 0 (upd H D (.dK []))) (hl : ∀ i H, i ≤ kv.length → Pv i H → H d = some (.frz o (.dK kv)))
    (hs : ∀ (i : Nat) (k : Key) (x : V) (T : Addr) (H : Hp), kv[i]? = some (k, x) → Pv i H → H T = none → g (.ref T) (wipe σ vs) (upd H T (.tup [kV k, x])) fun σ2 H2 => wipe σ2 vs = wipe σ vs ∧ tt σ2 H2 fun b H3 =>
      if b = true then tk σ2 H3 fun y H4 => tv σ2 H4 fun z H5 => ∃ kvs k, y = kV k ∧ H5 D = some (.dK kvs) ∧ kvs.length < sizeLine ∧ Pv (i + 1) (upd H5 D (.dK (putK kvs k z))) else Pv (i + 1) H3) (hd : ∀ H, Pv kv.length H → Qd H) :
    ∃ W : Nat → Nat → Hp → Prop, (∃ m, W 0 m (upd H D (.dK []))) ∧ ∀ i m H, W i m H →
      ((Iti d o kv).stop i H ∧ Qd H) ∨ ((Iti d o kv).go i H ∧ ∃ Nx : Hp → Prop, (∀ H', Nx H' → ∃ m', m' < m ∧ W (i + 1) m' H') ∧ ∀ x H', (Iti d o kv).yld i H x H' → g x (wipe σ vs) H' fun σ2 H2 => wipe σ2 vs = wipe σ vs ∧ tt σ2 H2 fun b H3 =>
        if b = true then tk σ2 H3 fun y H4 => tv σ2 H4 fun z H5 => ∃ kvs k, y = kV k ∧ H5 D = some (.dK kvs) ∧ kvs.length < sizeLine ∧ Nx (upd H5 D (.dK (putK kvs k z))) else Nx H3) := by
  refine ⟨fun i m H => m = kv.length - i ∧ i ≤ kv.length ∧ Pv i H, ⟨kv.length, by simp, Nat.zero_le _, h0⟩, ?_⟩
  rintro i m H ⟨rfl, hi, p⟩
  have q := hl i H hi p
  by_cases hlt : i < kv.length
  · refine .inr ⟨⟨q, hlt⟩, Pv (i + 1), fun H' p' => ⟨kv.length - (i + 1), by omega, rfl, hlt, p'⟩, fun x H' y => ?_⟩
    obtain ⟨T, k, v, hk, rfl, hT, rfl⟩ := y
    exact hs i k v T _ hk p hT
  · have e : i = kv.length := by omega
    subst e
    exact .inl ⟨⟨q, Nat.le_refl _⟩, hd H p⟩
theorem r_lcK {d : Addr} {o : Obj} {kv : List (Key × V)} {D : Addr} {Qd : Hp → Prop} (Pv : Nat → Hp → Prop) (h0 : Pv 0 (upd H D (.lst []))) (hl : ∀ i H, i ≤ kv.length → Pv i H → H d = some (.frz o (.dK kv)))
    (hs : ∀ (i : Nat) (k : Key) (x : V) (H : Hp), kv[i]? = some (k, x) → Pv i H → g (kV k) (wipe σ vs) H fun σ2 H2 => wipe σ2 vs = wipe σ vs ∧ tt σ2 H2 fun b H3 =>
      if b = true then te σ2 H3 fun y H4 => ∃ acc, H4 D = some (.lst acc) ∧ acc.length < sizeLine ∧ Pv (i + 1) (upd H4 D (.lst (acc ++ [y]))) else Pv (i + 1) H3) (hd : ∀ H, Pv kv.length H → Qd H) :
    ∃ W : Nat → Nat → Hp → Prop, (∃ m, W 0 m (upd H D (.lst []))) ∧ ∀ i m H, W i m H →
      ((Itk d o kv).stop i H ∧ Qd H) ∨ ((Itk d o kv).go i H ∧ ∃ Nx : Hp → Prop, (∀ H', Nx H' → ∃ m', m' < m ∧ W (i + 1) m' H') ∧ ∀ x H', (Itk d o kv).yld i H x H' → g x (wipe σ vs) H' fun σ2 H2 => wipe σ2 vs = wipe σ vs ∧ tt σ2 H2 fun b H3 =>
        if b = true then te σ2 H3 fun y H4 => ∃ acc, H4 D = some (.lst acc) ∧ acc.length < sizeLine ∧ Nx (upd H4 D (.lst (acc ++ [y]))) else Nx H3) := by
  refine ⟨fun i m H => m = kv.length - i ∧ i ≤ kv.length ∧ Pv i H, ⟨kv.length, by simp, Nat.zero_le _, h0⟩, ?_⟩
  rintro i m H ⟨rfl, hi, p⟩
  have q := hl i H hi p
  by_cases hlt : i < kv.length
  · refine .inr ⟨⟨q, hlt⟩, Pv (i + 1), fun H' p' => ⟨kv.length - (i + 1), by omega, rfl, hlt, p'⟩, fun x H' y => ?_⟩
    obtain ⟨rfl, k, v, hk, rfl⟩ := y
    exact hs i k v _ hk p
  · have e : i = kv.length := by omega
    subst e
    exact .inl ⟨⟨q, Nat.le_refl _⟩, hd H p⟩
theorem r_iKeys {R : It → Hp → Prop} {d : Addr} {o : Obj} {kvs : List (Key × V)} (hd : H d = some (.frz o (.dK kvs))) (h : R (Itk d o kvs) H) : ∃ d' o', V.ref d = .ref d' ∧ ((∃ kvs, H d' = some (.frz o' (.dK kvs)) ∧ R (Itk d' o' kvs) H) ∨ ∃ kvs, H d' = some (.frz o' (.dT kvs)) ∧ R (Itkt d' o' kvs) H) := ⟨d, o, rfl, .inl ⟨kvs, hd, h⟩⟩
theorem r_iKeysT {R : It → Hp → Prop} (h : td σ H fun x H1 => ∃ d o, x = .ref d ∧ ((∃ kvs, H1 d = some (.frz o (.dK kvs)) ∧ R (Itk d o kvs) H1) ∨ ∃ kvs, H1 d = some (.frz o (.dT kvs)) ∧ R (Itkt d o kvs) H1)) : iKeys td σ H R := h
theorem r_disp1 (h : ∀ p, H p = none → tk σ (upd H p (.dK [])) fun x H1 => tv σ H1 fun y H2 => H2 p = some (.dK []) ∧ ∃ kvs : List (Key × V), [(x, y)] = kvs.map (fun kv => (kV kv.1, kv.2)) ∧ kvs.length ≤ 15 ∧ Q (.ref p) (upd H2 p (.dK (mergeK [] kvs)))) : tDisp [(tk, tv)] σ H Q := h
theorem r_dnK (h : ∀ p, H p = none → Q (.ref p) (upd H p (.dK []))) : tDNewK σ H Q := h
theorem r_par3 {i j l : Nat} (h : ta σ H fun vs H1 => ∃ u v w, vs = [u, v, w] ∧ nx (((σ.set i (some u)).set j (some v)).set l (some w)) H1) : tPar3 i j l ta ⟨nx, rt, bk, ct⟩ σ H := h
theorem r_par3e {u v w : V} {R : V → V → V → Prop} (h : R u v w) : ∃ u' v' w', [u, v, w] = [u', v', w'] ∧ R u' v' w' := ⟨u, v, w, rfl, h⟩
theorem r_dict {p : Addr} {kvs : List (Key × V)} (h1 : H p = some (.dK kvs)) (h : ∀ l, H l = none → Q (.ref l) (upd H l (.dK kvs))) : ∃ (a : Addr) (kvs : List (Key × V)), [V.ref p] = [V.ref a] ∧ Rd H a (.dK kvs) ∧ ∀ p, H p = none → Q (.ref p) (upd H p (.dK kvs)) := ⟨p, kvs, rfl, .inl h1, h⟩
end
end Yk

set_option maxHeartbeats 2000000
namespace Yk
open PySem PySem.Spec PyProof.Rows L2

/-! The law's own helpers from k28 on: the bag, the draws. -/
theorem seed_sq {seed : Int} (h0 : 0 ≤ seed) (h1 : seed < 2147483629) : CMulW seed seed := cmul (m := 32) (n := 32) (by omega) (by omega) (by decide) (by decide) (by decide)
section
variable {P : Program} {w : World} {K : PySem.W.Frag} {mg : Str → Option Value} {base : Heap} {f : Addr} {fd : FuncData}
abbrev s_law_bag : Stmt := top 20
theorem c_law_bag : FnScope ["_law_script", "_law_seed", "_law_cell"] ["_law_script"] (defScope s_law_bag) := ⟨rfl, rfl, rfl, by decide +kernel, rfl, by decide +kernel, by decide +kernel⟩
theorem f_law_bag (F : FunD K "_law_bag" "_law_bag" (defArgs s_law_bag) (defBody s_law_bag) (defScope s_law_bag) [] [] f fd) (hm : mg "_law_bag" = some (.ref f)) (T : Bt mg) : Fn P w K mg base 1 "_law_bag" (spBag K) := by
  refine fn_def F hm c_law_bag (fun vs H Q E h => ?_) (fun _ _ _ _ _ _ us hl => match us, hl with | [_], _ => rfl) (fun cdv A outer s H vs Q E hr h => ?_)
  · obtain ⟨a, ns, rfl, _⟩ := h
    rfl
  · obtain ⟨a, ns, rfl, ha, hns, k⟩ := h
    have nd := c_law_bag.nd
    refine ⟨_, (pss_cons (ps_set (i := 1) nd rfl (by first | exact Or.inl rfl | exact Or.inr rfl) pe_int)
      (pss_cons (ps_for PassesOwn.never rfl (pi_list (pe_slice sl_list (pv 0) po_none (po_some pe_int))) (pg_name (i := 2) nd rfl (by first | exact Or.inl rfl | exact Or.inr rfl))
        (pss_one (ps_set (i := 1) nd rfl (by first | exact Or.inl rfl | exact Or.inr rfl) (pe_op op_mod (pe_callTy call_int1 (by rfl) T.int (by decide +kernel) (pa_cons (pe_op op_add (pe_op op_add (pe_op op_mul (pv 1) pe_int) (pe_op op_mod (pe_callTy call_int1 (by rfl) T.int (by decide +kernel) (pa_cons (pv 2) pa_nil)) pe_int)) pe_int) pa_nil)) pe_int))))
      (pss_one (ps_ret (pe_lst (pa_cons (pe_callTy cr_list (by rfl) T.list (by decide +kernel) (pa_cons (pe_slice sl_list (pv 0) po_none (po_some pe_int)) pa_nil)) (pa_cons pe_int (pa_cons pe_int (pa_cons (pv 1) (pa_cons pe_int pa_nil)))))))))), ?_⟩
    show (_ : TS) _ [some _, none, none] _
    try dsimp only [cxOf, Cx.nox]
    have hc : cutV (ns.map V.int) none (some 63) = ns.map V.int := cut_all (by rw [List.length_map]; exact hns)
    walk_at "go"
    refine r_for ?_
    refine r_iList ?_
    walk_at "go"
    refine r_slList ha fun p hp => ?_
    rw [hc]
    refine ⟨p, rfl, ⟨_, lstS⟩, r_loopL (xs := ns.map V.int) (fun i σ H1 => H1 = upd H p (.lst (ns.map V.int)) ∧ ∃ seed u, σ = [some (.ref a), some (.int seed), u] ∧ 0 ≤ seed ∧ seed < 2147483629) ⟨rfl, 13965, none, rfl, by decide, by decide⟩ (fun i σ H1 _ h => by rw [h.1]; exact lstS) ?_ ?_⟩
    · rintro i x σ H1 hx ⟨rfl, seed, u, rfl, h0, h1⟩
      obtain ⟨z, rfl⟩ : ∃ z, x = V.int z := by
        rw [List.getElem?_map] at hx
        cases e : ns[i]? with
        | none => rw [e] at hx; cases hx
        | some z => rw [e] at hx; exact ⟨z, (Option.some.inj hx).symm⟩
      walk_at "go"
      have hm := modI (seed * 69621 + z % 2147483629 + 17) (n := 2147483587) (by decide)
      exact ⟨rfl, _, _, rfl, hm.1, by omega⟩
    · rintro σ H1 ⟨rfl, seed, u, rfl, h0, h1⟩
      walk_at "go"
      refine r_slList (lstN ha hp) fun p2 hp2 => ?_
      rw [hc]
      walk_at "go"
      refine r_list (.inl lstS) fun l hl => ?_
      walk_at "go"
      have x3 := ((Ext.refl (S := []) (H := H)).new hp).new hp2 |>.new (o := .lst (ns.map V.int)) hl
      exact k ⟨_, l, ns⟩ _ (x3.free (by assumption)) (x3.new (by assumption)) (bag_ex (pos := 0) upd_same (lstN lstS (by assumption)) hns (Nat.zero_le _) (Int.le_refl _) h0 h1)
abbrev s_law_draw : Stmt := top 21
theorem c_law_draw : FnScope ["_law_bag_here", "_law_many", "_law_cell", "_law_digit", "_law_seed"] ["_law_bag_here", "_law_many"] (defScope s_law_draw) := ⟨rfl, rfl, rfl, by decide +kernel, rfl, by decide +kernel, by decide +kernel⟩
theorem f_law_draw (F : FunD K "_law_draw" "_law_draw" (defArgs s_law_draw) (defBody s_law_draw) (defScope s_law_draw) [] [] f fd) (hm : mg "_law_draw" = some (.ref f)) (T : Bt mg) : Fn P w K mg base 1 "_law_draw" (spDraw K) := by
  refine fn_def F hm c_law_draw (fun vs H Q E h => ?_) (fun _ _ _ _ _ _ us hl => match us, hl with | [_, _], _ => rfl) (fun cdv A outer s H vs Q E hr h => ?_)
  · obtain ⟨b, n, rfl, _⟩ := h
    rfl
  · obtain ⟨⟨b, it, ns⟩, n, rfl, hn, hn2, ⟨l, hb, hi, hns, pos, rest, seed, cnt, rfl, hp, hr0, hs0, hs1⟩, k⟩ := h
    have nd := c_law_draw.nd
    dsimp only at hb hi hns hp k
    refine ⟨_, (pss_cons (ps_asg (pe_op op_add (pe_ix ix_list (pv 0) pe_int (fun _ _ => rfl)) pe_int) (pg_sub (pv 0) pe_int set_list))
      (pss_mid (ps_if (PW.pt (pw_and (pt_cmpR op_eq (pe_ix ix_list (pv 0) pe_int (fun _ _ => rfl)) pe_int (nomark _)) (pw_and1 (pt_cmpR op_lt (pe_ix ix_list (pv 0) pe_int (fun _ _ => rfl)) (pe_callB cr_len (by rfl) T.len (by decide +kernel) (pa_cons (pe_ix ix_list (pv 0) pe_int (fun _ _ => rfl)) pa_nil)) (nomark _)))))
        (pss_cons (ps_set (i := 2) nd rfl (by first | exact Or.inl rfl | exact Or.inr rfl) (pe_ix ix_list (pe_ix ix_list (pv 0) pe_int (fun _ _ => rfl)) (pe_ix ix_list (pv 0) pe_int (fun _ _ => rfl)) (fun _ _ => rfl)))
        (pss_cons (ps_asg (pe_op op_add (pe_ix ix_list (pv 0) pe_int (fun _ _ => rfl)) pe_int) (pg_sub (pv 0) pe_int set_list))
        (pss_one (ps_if (pt_cmpR op_ge (pv 2) (pe_op op_pow pe_int pe_int) (nomark _))
          (pss_one (ps_asg (pv 2) (pg_sub (pv 0) pe_int set_list)))
          (pss_one (ps_asg (pe_op op_mod (pe_callTy call_int1 (by rfl) T.int (by decide +kernel) (pa_cons (pe_op op_add (pe_op op_add (pe_op op_mul (pe_ix ix_list (pv 0) pe_int (fun _ _ => rfl)) pe_int) (pe_op op_mul (pe_op op_mod (pe_callTy call_int1 (by rfl) T.int (by decide +kernel) (pa_cons (pv 2) pa_nil)) pe_int) pe_int)) pe_int) pa_nil)) pe_int) (pg_sub (pv 0) pe_int set_list)))))))
        pss_nil)
      (pss_cons (ps_if (pt_cmpR op_gt (pe_ix ix_list (pv 0) pe_int (fun _ _ => rfl)) pe_int (nomark _))
        (pss_cons (ps_set (i := 3) nd rfl (by first | exact Or.inl rfl | exact Or.inr rfl) (pe_op op_mod (pe_callTy call_int1 (by rfl) T.int (by decide +kernel) (pa_cons (pe_ix ix_list (pv 0) pe_int (fun _ _ => rfl)) pa_nil)) (pv 1)))
        (pss_cons (ps_asg (pe_op op_fdivW (pe_ix ix_list (pv 0) pe_int (fun _ _ => rfl)) (pv 1)) (pg_sub (pv 0) pe_int set_list))
        (pss_one (ps_ret (pv 3)))))
        pss_nil)
      (pss_cons (ps_set (i := 4) nd rfl (by first | exact Or.inl rfl | exact Or.inr rfl) (pe_ix ix_list (pv 0) pe_int (fun _ _ => rfl)))
      (pss_cons (ps_asg (pe_op op_mod (pe_callTy call_int1 (by rfl) T.int (by decide +kernel) (pa_cons (pe_op op_add (pe_op op_add (pe_op op_add (pe_op op_mul (pe_op op_mulW (pv 4) (pv 4)) pe_int) (pe_op op_mul (pv 4) pe_int)) (pe_op op_mul (pe_ix ix_list (pv 0) pe_int (fun _ _ => rfl)) pe_int)) pe_int) pa_nil)) pe_int) (pg_sub (pv 0) pe_int set_list))
      (pss_one (ps_ret (pe_op op_mod (pe_callTy call_int1 (by rfl) T.int (by decide +kernel) (pa_cons (pe_op op_add (pe_op op_fdivW (pe_ix ix_list (pv 0) pe_int (fun _ _ => rfl)) pe_int) (pe_op op_mul (pe_op op_mod (pe_callTy call_int1 (by rfl) T.int (by decide +kernel) (pa_cons (pe_ix ix_list (pv 0) pe_int (fun _ _ => rfl)) pa_nil)) pe_int) pe_int)) pa_nil)) (pv 1))))))))), ?_⟩
    show (_ : TS) _ [some _, some _, none, none, none] _
    try dsimp only [cxOf, Cx.nox]
    have bb : SqL K H b [.ref it, .int (pos : Int), .int rest, .int seed, .int cnt] := .inl (.inl hb)
    walk_at "go"
    refine r_setB (K := K) hb rfl _ rfl (fun H1 hb1 e1 c1 => ?_)
    have bb1 : SqL K H1 b [.ref it, .int (pos : Int), .int rest, .int seed, .int (cnt + 1)] := .inl (.inl hb1)
    have hi1 := c1 _ _ hi (ns_ne _ _ _)
    refine r_mid (fun σ H2 => ∃ (u : Option V) (pos' : Nat) (rest' seed' : Int), σ = [some (.ref b), some (.int n), u, none, none] ∧ H2 b = some (.lst [.ref it, .int (pos' : Int), .int rest', .int seed', .int (cnt + 1)]) ∧ SqL K H2 it (ns.map V.int) ∧ Ext [b] H H2 ∧ pos' ≤ ns.length ∧ 0 ≤ rest' ∧ 0 ≤ seed' ∧ seed' < 2147483629) ?_ ?_
    · walk_at "go"
      refine r_dec (fun hrest => ?_) (fun hrest => ?_)
      · walk_at "go"
        refine r_dec (fun hpos => ?_) (fun hpos => ?_)
        · have hpn : pos < ns.length := by rw [List.length_map] at hpos; omega
          walk_at "go"
          refine r_ixL hi1 (at_map hpn) ?_
          walk_at "go"
          refine r_setB (K := K) hb1 rfl _ rfl (fun H2 hb2 e2 c2 => ?_)
          have bb2 : SqL K H2 b [.ref it, .int ((pos : Int) + 1), .int rest, .int seed, .int (cnt + 1)] := .inl (.inl hb2)
          have hi2 := c2 _ _ hi1 (ns_ne _ _ _)
          walk_at "go"
          refine r_dec (fun hge => ?_) (fun hge => ?_)
          · walk_at "go"
            refine r_setB (K := K) hb2 rfl _ rfl (fun H3 hb3 e3 c3 => ?_)
            exact ⟨_, pos + 1, ns[pos], seed, rfl, by rw [Int.natCast_add]; exact hb3, c3 _ _ hi2 (ns_ne _ _ _), (e1.trans e2).trans e3, hpn, Int.le_trans (by decide) hge, hs0, hs1⟩
          · walk_at "go"
            refine r_setB (K := K) hb2 rfl _ rfl (fun H3 hb3 e3 c3 => ?_)
            have hm := modI (seed * 39373 + ns[pos] % 2147483549 * 24571 + 59) (n := 2147483579) (by decide)
            exact ⟨_, pos + 1, rest, _, rfl, by rw [Int.natCast_add]; exact hb3, c3 _ _ hi2 (ns_ne _ _ _), (e1.trans e2).trans e3, hpn, hr0, hm.1, by omega⟩
        · walk_at "go"
          exact ⟨_, pos, rest, seed, rfl, hb1, hi1, e1, hp, hr0, hs0, hs1⟩
      · walk_at "go"
        exact ⟨_, pos, rest, seed, rfl, hb1, hi1, e1, hp, hr0, hs0, hs1⟩
    · rintro σ H2 ⟨u, pos', rest', seed', rfl, hb2, hi2, e2, hp2, hr2, hs2, hs3⟩
      have bb2 : SqL K H2 b [.ref it, .int (pos' : Int), .int rest', .int seed', .int (cnt + 1)] := .inl (.inl hb2)
      walk_at "go"
      refine r_dec (fun hpos => ?_) (fun hpos => ?_)
      · have d1 : CDivW rest' n := wide_div hn (b := 400) (by omega) (by decide) (by decide)
        walk_at "go"
        refine r_setB (K := K) hb2 rfl _ rfl (fun H3 hb3 e3 c3 => ?_)
        walk_at "go"
        have hm := modI rest' hn
        exact k _ H3 hm.1 hm.2 (bag_ex hb3 (c3 _ _ hi2 (ns_ne _ _ _)) hns hp2 (Int.ediv_nonneg hr2 (by omega)) hs2 hs3) (e2.trans e3)
      · have c4 := seed_sq hs2 hs3
        walk_at "go"
        refine r_setB (K := K) hb2 rfl _ rfl (fun H3 hb3 e3 c3 => ?_)
        have hm := modI (seed' * seed' * 29 + seed' * 48673 + (cnt + 1) * 1500007 + 70001) (n := 2147483579) (by decide)
        have bb3 : SqL K H3 b [.ref it, .int (pos' : Int), .int rest', .int ((seed' * seed' * 29 + seed' * 48673 + (cnt + 1) * 1500007 + 70001) % 2147483579), .int (cnt + 1)] := .inl (.inl hb3)
        walk_at "go"
        have hm2 := modI ((seed' * seed' * 29 + seed' * 48673 + (cnt + 1) * 1500007 + 70001) % 2147483579 / 101 + (seed' * seed' * 29 + seed' * 48673 + (cnt + 1) * 1500007 + 70001) % 2147483579 % 6007 * 83) hn
        exact k _ H3 hm2.1 hm2.2 (bag_ex hb3 (c3 _ _ hi2 (ns_ne _ _ _)) hns hp2 hr2 hm.1 (by omega)) (e2.trans e3)
end
end Yk

set_option maxHeartbeats 2000000
namespace Yk
open PySem PySem.Spec PyProof.Rows L2

/-! The law's own arithmetic from k28 on. -/
def spLess (K : PySem.W.Frag) : Sp := fun vs H Q _ => ∃ v1 v2 p q, vs = [v1, v2] ∧ Am K H v1 p ∧ Am K H v2 q ∧ Sz 4000 p ∧ Sz 4000 q ∧ Q (.bl (decide (p < q))) H
def restQ (p q : Rat) : Rat := if p ≤ q then 0 else p - q
section
variable {P : Program} {w : World} {K : PySem.W.Frag} {mg : Str → Option Value} {base : Heap} {f : Addr} {fd : FuncData}
abbrev s_law_amount : Stmt := top 23
theorem c_law_amount : FnScope ["_law_top", "_law_bottom", "_law_one", "_law_two"] ["_law_top", "_law_bottom"] (defScope s_law_amount) := ⟨rfl, rfl, rfl, by decide +kernel, rfl, by decide +kernel, by decide +kernel⟩
theorem f_law_amount (F : FunD K "_law_amount" "_law_amount" (defArgs s_law_amount) (defBody s_law_amount) (defScope s_law_amount) [] [] f fd) (hm : mg "_law_amount" = some (.ref f)) (T : Bt mg) : Fn P w K mg base 1 "_law_amount" (spPair K) := by
  refine fn_def F hm c_law_amount (fun vs H Q E h => ?_) (fun _ _ _ _ _ _ us hl => match us, hl with | [_, _], _ => rfl) (fun cdv A outer s H vs Q E hr h => ?_)
  · obtain ⟨a, b, rfl, _⟩ := h
    rfl
  · obtain ⟨a, b, rfl, hb, la, lb, k⟩ := h
    have nd := c_law_amount.nd
    refine ⟨_, (pss_cons (ps_par (i := 2) (j := 3) (by rfl) nd rfl rfl (by decide) rfl rfl (pa_cons (pv 0) (pa_cons (pv 1) pa_nil)) (by rfl))
      (pss_cons (ps_while PassesOwn.never (pt_cmpR op_gt (pv 3) pe_int (nomark _))
        (pss_one (ps_par (i := 2) (j := 3) (by rfl) nd rfl rfl (by decide) rfl rfl (pa_cons (pv 3) (pa_cons (pe_op op_mod (pe_callTy call_int1 (by rfl) T.int (by decide +kernel) (pa_cons (pv 2) pa_nil)) (pv 3)) pa_nil)) (by rfl))))
      (pss_one (ps_ret (pe_tup (pa_cons (pe_op op_fdivW (pv 0) (pv 2)) (pa_cons (pe_op op_fdivW (pv 1) (pv 2)) pa_nil))))))), ?_⟩
    show (_ : TS) _ [some _, some _, none, none] _
    try dsimp only [cxOf, Cx.nox]
    walk_at "go"
    refine r_while (fun m σ H1 => H1 = H ∧ ∃ x y : Nat, y = m ∧ 0 < x + y ∧ σ = [some (.int (a : Int)), some (.int (b : Int)), some (.int (x : Int)), some (.int (y : Int))] ∧ Nat.gcd x y = Nat.gcd a b) b ⟨rfl, a, b, rfl, by omega, rfl, rfl⟩ ?_
    rintro m σ H1 ⟨rfl, x, y, rfl, hxy, rfl, hg⟩
    walk_at "go"
    refine r_dec (fun hy => ?_) (fun hy => ?_)
    · have hy' : 0 < y := by omega
      refine ⟨fun σ H' => H' = H1 ∧ σ = [some (.int (a : Int)), some (.int (b : Int)), some (.int (y : Int)), some (.int ((x % y : Nat) : Int))], ?_, ?_⟩
      · rintro σ' H' ⟨rfl, rfl⟩
        refine ⟨x % y, Nat.mod_lt _ hy', rfl, y, x % y, rfl, by omega, rfl, ?_⟩
        rw [← hg, Nat.gcd_comm x y, Nat.gcd_rec y x, Nat.gcd_comm]
      · walk_at "go"
        exact ⟨rfl, rfl⟩
    · have y0 : y = 0 := by omega
      subst y0
      rw [Nat.gcd_zero_right] at hg
      have hx : 0 < x := by omega
      have lx : x < 2 ^ 8900 := Nat.lt_of_le_of_lt (by rw [hg]; exact Nat.gcd_le_right _ hb) lb
      have d1 : ∀ i : Int, CDivW i (x : Int) := fun i => cdiv hx lx (by decide) (by decide)
      walk_at "go"
      refine r_I (d1 _) ?_
      walk_at "go"
      refine r_I (d1 _) ?_
      walk_at "go"
      refine k _ _ (Ext.refl.new (by assumption)) ⟨_, rfl, ?_⟩
      obtain ⟨x1, x2⟩ := mk_parts a b hb
      rw [x1, x2, ← hg]
      simp only [Int.natCast_ediv]
      exact tupS
abbrev s_law_sum : Stmt := top 24
theorem c_law_sum : FnScope ["_law_one", "_law_two"] ["_law_one", "_law_two"] (defScope s_law_sum) := ⟨rfl, rfl, rfl, by decide +kernel, rfl, by decide +kernel, by decide +kernel⟩
theorem f_law_sum (F : FunD K "_law_sum" "_law_sum" (defArgs s_law_sum) (defBody s_law_sum) (defScope s_law_sum) [] [] f fd) (hm : mg "_law_sum" = some (.ref f)) (F_law_amount : Fn P w K mg base 1 "_law_amount" (spPair K)) : Fn P w K mg base 2 "_law_sum" (sp2 (fun _ _ => True) (· + ·) K) := by
  refine fn_def F hm c_law_sum (fun vs H Q E h => ?_) (fun _ _ _ _ _ _ us hl => match us, hl with | [_, _], _ => rfl) (fun cdv A outer s H vs Q E hr h => ?_)
  · obtain ⟨v1, v2, p, q, rfl, _⟩ := h
    rfl
  · obtain ⟨v1, v2, p, q, rfl, ⟨a1, rfl, h1⟩, ⟨a2, rfl, h2⟩, z1, z2, p0, q0, _, k⟩ := h
    have nd := c_law_sum.nd
    refine ⟨_, (pss_one (ps_ret (pe_fn F_law_amount (hr.mono (by decide)) (pa_cons (pe_op op_add (pe_op op_mulW (pe_ix ix_tup (pv 0) pe_int (fun _ _ => rfl)) (pe_ix ix_tup (pv 1) pe_int (fun _ _ => rfl))) (pe_op op_mulW (pe_ix ix_tup (pv 1) pe_int (fun _ _ => rfl)) (pe_ix ix_tup (pv 0) pe_int (fun _ _ => rfl)))) (pa_cons (pe_op op_mulW (pe_ix ix_tup (pv 0) pe_int (fun _ _ => rfl)) (pe_ix ix_tup (pv 1) pe_int (fun _ _ => rfl))) pa_nil))))), ?_⟩
    show (_ : TS) _ [some _, some _] _
    try dsimp only [cxOf, Cx.nox]
    have m1 : CMulW p.num (q.den : Int) := cmul z1.1 (szd z2) (by decide) (by decide) (by decide)
    have m2 : CMulW q.num (p.den : Int) := cmul z2.1 (szd z1) (by decide) (by decide) (by decide)
    have m3 : CMulW (p.den : Int) (q.den : Int) := cmul (szd z1) (szd z2) (by decide) (by decide) (by decide)
    walk_at "go"
    have e1 := mulz z1.1 (szd z2)
    have e2 := mulz z2.1 (szd z1)
    have e3 : p.den * q.den < 2 ^ (4000 + 4000) := by rw [Nat.pow_add]; exact Nat.mul_lt_mul'' z1.2 z2.2
    have e4 : (2 : Nat) ^ (4000 + 4000) + 2 ^ (4000 + 4000) ≤ 2 ^ 8900 := by decide +kernel
    have n1 : 0 ≤ p.num * (q.den : Int) := Int.mul_nonneg (num_nn p0) (by omega)
    have n2 : 0 ≤ q.num * (p.den : Int) := Int.mul_nonneg (num_nn q0) (by omega)
    refine ⟨(p.num * (q.den : Int) + q.num * (p.den : Int)).toNat, p.den * q.den, ?_, Nat.mul_pos p.den_pos q.den_pos, ?_, by omega, fun v H' e a => k v H' e ?_⟩
    · rw [Int.toNat_of_nonneg (by omega), Int.natCast_mul]
    · generalize (2 : Nat) ^ (4000 + 4000) = B at *
      generalize (2 : Nat) ^ 8900 = C at *
      omega
    · rw [Int.toNat_of_nonneg (by omega), mk_add] at a
      exact a
theorem mk_subH (p q : Rat) : mkRat (p.num * q.den - q.num * p.den) (p.den * q.den) = p - q := by rw [Rat.sub_eq_add_neg, Rat.add_def, Rat.normalize_eq_mkRat, Rat.neg_num, Rat.neg_den, Int.neg_mul, Int.sub_eq_add_neg]
theorem le_cross (p q : Rat) : p ≤ q ↔ p.num * (q.den : Int) - q.num * (p.den : Int) ≤ 0 := by
  have h1 := Rat.lt_iff q p
  have h2 : p ≤ q ↔ ¬ q < p := Rat.not_lt.symm
  rw [h2, h1]
  omega
theorem mk_rest (p q : Rat) : mkRat ((max (p.num * (q.den : Int) - q.num * (p.den : Int)) 0).toNat : Int) (p.den * q.den) = restQ p q := by
  unfold restQ
  by_cases h : p ≤ q
  · have h2 := (le_cross p q).mp h
    rw [if_pos h, Int.max_eq_right h2]
    simp
  · have h2 : ¬ (p.num * (q.den : Int) - q.num * (p.den : Int) ≤ 0) := fun z => h ((le_cross p q).mpr z)
    rw [if_neg h, Int.max_eq_left (by omega), Int.toNat_of_nonneg (by omega), mk_subH]
theorem max_if (a : Int) : (if 0 > a then 0 else a) = max a 0 := by omega
theorem rest_nn (p q : Rat) : 0 ≤ restQ p q := by
  unfold restQ
  split
  · exact Rat.le_refl
  · grind
abbrev s_law_rest : Stmt := top 25
theorem c_law_rest : FnScope ["_law_one", "_law_two"] ["_law_one", "_law_two"] (defScope s_law_rest) := ⟨rfl, rfl, rfl, by decide +kernel, rfl, by decide +kernel, by decide +kernel⟩
theorem f_law_rest (F : FunD K "_law_rest" "_law_rest" (defArgs s_law_rest) (defBody s_law_rest) (defScope s_law_rest) [] [] f fd) (hm : mg "_law_rest" = some (.ref f)) (T : Bt mg) (F_law_amount : Fn P w K mg base 1 "_law_amount" (spPair K)) : Fn P w K mg base 2 "_law_rest" (sp2 (fun _ _ => True) restQ K) := by
  refine fn_def F hm c_law_rest (fun vs H Q E h => ?_) (fun _ _ _ _ _ _ us hl => match us, hl with | [_, _], _ => rfl) (fun cdv A outer s H vs Q E hr h => ?_)
  · obtain ⟨v1, v2, p, q, rfl, _⟩ := h
    rfl
  · obtain ⟨v1, v2, p, q, rfl, ⟨a1, rfl, h1⟩, ⟨a2, rfl, h2⟩, z1, z2, p0, q0, _, k⟩ := h
    have nd := c_law_rest.nd
    refine ⟨_, (pss_one (ps_ret (pe_fn F_law_amount (hr.mono (by decide)) (pa_cons (pe_callB (call_max2 rfl) (by rfl) T.max (by decide +kernel) (pa_cons (pe_op op_sub (pe_op op_mulW (pe_ix ix_tup (pv 0) pe_int (fun _ _ => rfl)) (pe_ix ix_tup (pv 1) pe_int (fun _ _ => rfl))) (pe_op op_mulW (pe_ix ix_tup (pv 1) pe_int (fun _ _ => rfl)) (pe_ix ix_tup (pv 0) pe_int (fun _ _ => rfl)))) (pa_cons pe_int pa_nil))) (pa_cons (pe_op op_mulW (pe_ix ix_tup (pv 0) pe_int (fun _ _ => rfl)) (pe_ix ix_tup (pv 1) pe_int (fun _ _ => rfl))) pa_nil))))), ?_⟩
    show (_ : TS) _ [some _, some _] _
    try dsimp only [cxOf, Cx.nox]
    have m1 : CMulW p.num (q.den : Int) := cmul z1.1 (szd z2) (by decide) (by decide) (by decide)
    have m2 : CMulW q.num (p.den : Int) := cmul z2.1 (szd z1) (by decide) (by decide) (by decide)
    have m3 : CMulW (p.den : Int) (q.den : Int) := cmul (szd z1) (szd z2) (by decide) (by decide) (by decide)
    walk_at "go"
    have e1 := mulz z1.1 (szd z2)
    have e2 := mulz z2.1 (szd z1)
    have e3 : p.den * q.den < 2 ^ (4000 + 4000) := by rw [Nat.pow_add]; exact Nat.mul_lt_mul'' z1.2 z2.2
    have e4 : (2 : Nat) ^ (4000 + 4000) + 2 ^ (4000 + 4000) ≤ 2 ^ 8900 := by decide +kernel
    have n1 : 0 ≤ p.num * (q.den : Int) := Int.mul_nonneg (num_nn p0) (by omega)
    have n2 : 0 ≤ q.num * (p.den : Int) := Int.mul_nonneg (num_nn q0) (by omega)
    refine ⟨(max (p.num * (q.den : Int) - q.num * (p.den : Int)) 0).toNat, p.den * q.den, ?_, Nat.mul_pos p.den_pos q.den_pos, ?_, by omega, fun v H' e a => k v H' e ?_⟩
    · rw [Int.toNat_of_nonneg (by omega), Int.natCast_mul, max_if]
    · generalize (2 : Nat) ^ (4000 + 4000) = B at *
      generalize (2 : Nat) ^ 8900 = C at *
      omega
    · rw [mk_rest] at a
      exact a
abbrev s_law_less : Stmt := top 27
theorem c_law_less : FnScope ["_law_one", "_law_two"] ["_law_one", "_law_two"] (defScope s_law_less) := ⟨rfl, rfl, rfl, by decide +kernel, rfl, by decide +kernel, by decide +kernel⟩
theorem f_law_less (F : FunD K "_law_less" "_law_less" (defArgs s_law_less) (defBody s_law_less) (defScope s_law_less) [] [] f fd) (hm : mg "_law_less" = some (.ref f))  : Fn P w K mg base 1 "_law_less" (spLess K) := by
  refine fn_def F hm c_law_less (fun vs H Q E h => ?_) (fun _ _ _ _ _ _ us hl => match us, hl with | [_, _], _ => rfl) (fun cdv A outer s H vs Q E hr h => ?_)
  · obtain ⟨v1, v2, p, q, rfl, _⟩ := h
    rfl
  · obtain ⟨v1, v2, p, q, rfl, ⟨a1, rfl, h1⟩, ⟨a2, rfl, h2⟩, z1, z2, k⟩ := h
    have nd := c_law_less.nd
    refine ⟨_, (pss_one (ps_ret (pe_cmpR op_lt (pe_op op_mulW (pe_ix ix_tup (pv 0) pe_int (fun _ _ => rfl)) (pe_ix ix_tup (pv 1) pe_int (fun _ _ => rfl))) (pe_op op_mulW (pe_ix ix_tup (pv 1) pe_int (fun _ _ => rfl)) (pe_ix ix_tup (pv 0) pe_int (fun _ _ => rfl))) (nomark _)))), ?_⟩
    show (_ : TS) _ [some _, some _] _
    try dsimp only [cxOf, Cx.nox]
    have m1 : CMulW p.num (q.den : Int) := cmul z1.1 (szd z2) (by decide) (by decide) (by decide)
    have m2 : CMulW q.num (p.den : Int) := cmul z2.1 (szd z1) (by decide) (by decide) (by decide)
    walk_at "go"
    have e : decide (p.num * (q.den : Int) < q.num * (p.den : Int)) = decide (p < q) := decide_eq_decide.mpr (Rat.lt_iff p q).symm
    rw [e]
    exact k
abbrev s_law_min : Stmt := top 28
theorem c_law_min : FnScope ["_law_one", "_law_two"] ["_law_one", "_law_two"] (defScope s_law_min) := ⟨rfl, rfl, rfl, by decide +kernel, rfl, by decide +kernel, by decide +kernel⟩
theorem f_law_min (F : FunD K "_law_min" "_law_min" (defArgs s_law_min) (defBody s_law_min) (defScope s_law_min) [] [] f fd) (hm : mg "_law_min" = some (.ref f)) (F_law_less : Fn P w K mg base 1 "_law_less" (spLess K)) : Fn P w K mg base 2 "_law_min" (sp2 (fun _ _ => True) lmin K) := by
  refine fn_def F hm c_law_min (fun vs H Q E h => ?_) (fun _ _ _ _ _ _ us hl => match us, hl with | [_, _], _ => rfl) (fun cdv A outer s H vs Q E hr h => ?_)
  · obtain ⟨v1, v2, p, q, rfl, _⟩ := h
    rfl
  · obtain ⟨v1, v2, p, q, rfl, h1, h2, z1, z2, p0, q0, _, k⟩ := h
    have nd := c_law_min.nd
    refine ⟨_, (pss_one (ps_ret (pe_ifExp (pt_val (pe_fn F_law_less (hr.mono (by decide)) (pa_cons (pv 1) (pa_cons (pv 0) pa_nil)))) (pv 1) (pv 0)))), ?_⟩
    show (_ : TS) _ [some _, some _] _
    try dsimp only [cxOf, Cx.nox]
    walk_at "go"
    refine ⟨_, _, q, p, rfl, h2, h1, z2, z1, ?_⟩
    refine r_bl ?_
    refine r_dec (fun hl => ?_) (fun hl => ?_)
    · walk_at "go"
      refine k _ _ Ext.refl ?_
      unfold lmin
      rw [if_pos hl]
      exact h2
    · walk_at "go"
      refine k _ _ Ext.refl ?_
      unfold lmin
      rw [if_neg hl]
      exact h1
def gmax (p q : Rat) : Rat := if p < q then q else p
abbrev s_law_max : Stmt := top 29
theorem c_law_max : FnScope ["_law_one", "_law_two"] ["_law_one", "_law_two"] (defScope s_law_max) := ⟨rfl, rfl, rfl, by decide +kernel, rfl, by decide +kernel, by decide +kernel⟩
theorem f_law_max (F : FunD K "_law_max" "_law_max" (defArgs s_law_max) (defBody s_law_max) (defScope s_law_max) [] [] f fd) (hm : mg "_law_max" = some (.ref f)) (F_law_less : Fn P w K mg base 1 "_law_less" (spLess K)) : Fn P w K mg base 2 "_law_max" (sp2 (fun _ _ => True) gmax K) := by
  refine fn_def F hm c_law_max (fun vs H Q E h => ?_) (fun _ _ _ _ _ _ us hl => match us, hl with | [_, _], _ => rfl) (fun cdv A outer s H vs Q E hr h => ?_)
  · obtain ⟨v1, v2, p, q, rfl, _⟩ := h
    rfl
  · obtain ⟨v1, v2, p, q, rfl, h1, h2, z1, z2, p0, q0, _, k⟩ := h
    have nd := c_law_max.nd
    refine ⟨_, (pss_one (ps_ret (pe_ifExp (pt_val (pe_fn F_law_less (hr.mono (by decide)) (pa_cons (pv 0) (pa_cons (pv 1) pa_nil)))) (pv 1) (pv 0)))), ?_⟩
    show (_ : TS) _ [some _, some _] _
    try dsimp only [cxOf, Cx.nox]
    walk_at "go"
    refine ⟨_, _, p, q, rfl, h1, h2, z1, z2, ?_⟩
    refine r_bl ?_
    refine r_dec (fun hl => ?_) (fun hl => ?_)
    · walk_at "go"
      refine k _ _ Ext.refl ?_
      unfold gmax
      rw [if_pos hl]
      exact h2
    · walk_at "go"
      refine k _ _ Ext.refl ?_
      unfold gmax
      rw [if_neg hl]
      exact h1
/-- an amount times a fraction of numbers -/
def spScaled (K : PySem.W.Frag) : Sp := fun vs H Q _ => ∃ (v : V) (q : Rat) (a b : Nat), vs = [v, .int (a : Int), .int (b : Int)] ∧ Am K H v q ∧ 0 ≤ q ∧ 0 < b ∧ Sz 4000 q ∧ a < 2 ^ 400 ∧ b < 2 ^ 400 ∧ RetAm K H Q (q * mkRat a b)
theorem mk_scaled (q : Rat) (a b : Nat) : mkRat (q.num * (a : Int)) (q.den * b) = q * mkRat a b := by
  conv => rhs; rw [← Rat.mkRat_self q]
  rw [Rat.mkRat_mul_mkRat]
abbrev s_law_scaled : Stmt := top 26
theorem c_law_scaled : FnScope ["_law_one", "_law_top", "_law_bottom"] ["_law_one", "_law_top", "_law_bottom"] (defScope s_law_scaled) := ⟨rfl, rfl, rfl, by decide +kernel, rfl, by decide +kernel, by decide +kernel⟩
theorem f_law_scaled (F : FunD K "_law_scaled" "_law_scaled" (defArgs s_law_scaled) (defBody s_law_scaled) (defScope s_law_scaled) [] [] f fd) (hm : mg "_law_scaled" = some (.ref f)) (F_law_amount : Fn P w K mg base 1 "_law_amount" (spPair K)) : Fn P w K mg base 2 "_law_scaled" (spScaled K) := by
  refine fn_def F hm c_law_scaled (fun vs H Q E h => ?_) (fun _ _ _ _ _ _ us hl => match us, hl with | [_, _, _], _ => rfl) (fun cdv A outer s H vs Q E hr h => ?_)
  · obtain ⟨v, q, a, b, rfl, _⟩ := h
    rfl
  · obtain ⟨v, q, a, b, rfl, ⟨a1, rfl, h1⟩, q0, hb, z1, ha2, hb2, k⟩ := h
    have nd := c_law_scaled.nd
    refine ⟨_, (pss_one (ps_ret (pe_fn F_law_amount (hr.mono (by decide)) (pa_cons (pe_op op_mulW (pe_ix ix_tup (pv 0) pe_int (fun _ _ => rfl)) (pv 1)) (pa_cons (pe_op op_mulW (pe_ix ix_tup (pv 0) pe_int (fun _ _ => rfl)) (pv 2)) pa_nil))))), ?_⟩
    show (_ : TS) _ [some _, some _, some _] _
    try dsimp only [cxOf, Cx.nox]
    have ha3 : (a : Int).natAbs < 2 ^ 400 := by rw [Int.natAbs_natCast]; exact ha2
    have hb3 : (b : Int).natAbs < 2 ^ 400 := by rw [Int.natAbs_natCast]; exact hb2
    have m1 : CMulW q.num (a : Int) := cmul z1.1 ha3 (by decide) (by decide) (by decide)
    have m2 : CMulW (q.den : Int) (b : Int) := cmul (szd z1) hb3 (by decide) (by decide) (by decide)
    walk_at "go"
    have e1 := mulz z1.1 ha3
    have e3 : q.den * b < 2 ^ (4000 + 400) := by rw [Nat.pow_add]; exact Nat.mul_lt_mul'' z1.2 hb2
    have e4 : (2 : Nat) ^ (4000 + 400) ≤ 2 ^ 8900 := by decide +kernel
    have n1 : 0 ≤ q.num * (a : Int) := Int.mul_nonneg (num_nn q0) (by omega)
    refine ⟨(q.num * (a : Int)).toNat, q.den * b, ?_, Nat.mul_pos q.den_pos hb, ?_, by omega, fun v H' e am => k v H' e ?_⟩
    · rw [Int.toNat_of_nonneg (by omega), Int.natCast_mul]
    · generalize (2 : Nat) ^ (4000 + 400) = B at *
      generalize (2 : Nat) ^ 8900 = C at *
      omega
    · rw [Int.toNat_of_nonneg (by omega), mk_scaled q a b] at am
      exact am
end
end Yk

set_option maxHeartbeats 4000000
namespace Yk
open PySem PySem.Spec PyProof.Rows L2

/-! _law_same: data that is alike. -/
section
variable {P : Program} {w : World} {K : PySem.W.Frag} {mg : Str → Option Value} {base : Heap} {f : Addr} {fd : FuncData}
abbrev s_law_same : Stmt := top 31
theorem c_law_same : FnScope ["_law_told", "_law_due", "_law_one", "_law_two"] ["_law_told", "_law_due"] (defScope s_law_same) := ⟨rfl, rfl, rfl, by decide +kernel, rfl, by decide +kernel, by decide +kernel⟩
theorem f_law_same (F : FunD K "_law_same" "_law_same" (defArgs s_law_same) (defBody s_law_same) (defScope s_law_same) [] [] f fd) (hm : mg "_law_same" = some (.ref f)) (T : Bt mg) (n : Nat) (F_law_same : Fn P w K mg base n "_law_same" (spLike K n)) : Fn P w K mg base (n+1) "_law_same" (spLike K (n + 1)) := by
  refine fn_def F hm c_law_same (fun vs H Q E h => ?_) (fun _ _ _ _ _ _ us hl => match us, hl with | [_, _], _ => rfl) (fun cdv A outer s H vs Q E hr h => ?_)
  · obtain ⟨v1, v2, rfl, _⟩ := h
    rfl
  · obtain ⟨v1, v2, rfl, he, k⟩ := h
    have nd := c_law_same.nd
    refine ⟨_, (pss_cons (ps_if (pt_val (pe_callB call_isiT (by rfl) T.isinstance (by decide +kernel) (pa_cons (pv 1) (pa_cons (pe_tup (pa_cons (pe_bltn (v := .ty "tuple") (by rfl) T.tuple (by decide +kernel) rfl) (pa_cons (pe_bltn (v := .ty "list") (by rfl) T.list (by decide +kernel) rfl) pa_nil))) pa_nil))))
        (pss_cons (ps_if (PW.pt (pw_or (pt_cmpR op_ne (pe_callB call_isi (by rfl) T.isinstance (by decide +kernel) (pa_cons (pv 0) (pa_cons (pe_bltn (v := .ty "tuple") (by rfl) T.tuple (by decide +kernel) rfl) pa_nil))) (pe_callB call_isi (by rfl) T.isinstance (by decide +kernel) (pa_cons (pv 1) (pa_cons (pe_bltn (v := .ty "tuple") (by rfl) T.tuple (by decide +kernel) rfl) pa_nil))) (nomark _)) (pw_or1 (pt_cmpR op_ne (pe_callB call_isi (by rfl) T.isinstance (by decide +kernel) (pa_cons (pv 0) (pa_cons (pe_bltn (v := .ty "list") (by rfl) T.list (by decide +kernel) rfl) pa_nil))) (pe_callB call_isi (by rfl) T.isinstance (by decide +kernel) (pa_cons (pv 1) (pa_cons (pe_bltn (v := .ty "list") (by rfl) T.list (by decide +kernel) rfl) pa_nil))) (nomark _)))))
          (pss_one (ps_ret pe_bl))
          pss_nil)
        (pss_one (ps_ret (pe_and (pe_cmpR op_eq (pe_callB cr_len (by rfl) T.len (by decide +kernel) (pa_cons (pv 0) pa_nil)) (pe_callB cr_len (by rfl) T.len (by decide +kernel) (pa_cons (pv 1) pa_nil)) (nomark _)) (pe_one (pe_callB (cr_all rfl) (by rfl) T.all (by decide +kernel) (pa_cons (pe_lc (own := [("_law_one", 2), ("_law_two", 3)])  rfl nd (RZ.pi_zipA (by rfl) T.zip (pa_cons (pv 0) (pa_cons (pv 1) pa_nil))) (blkOk_by (N := ["_law_told", "_law_due", "_law_one", "_law_two"]) (sc := defScope s_law_same) (by decide +kernel)) (fun _ _ _ _ _ => (pg_tup (n := 2) rfl (pgs_cons (pg_name (i := 2) nd rfl (Or.inl rfl)) (pgs_cons (pg_name (i := 3) nd rfl (Or.inl rfl)) pgs_nil)) : PG _ _ (gTup K 2 _))) (fun _ _ _ _ _ => pts_nil) (fun _ _ _ _ _ => (pe_fn F_law_same (hr.mono (Nat.le_refl _)) (pa_cons (pv 2) (pa_cons (pv 3) pa_nil))))) pa_nil)))))))
        pss_nil)
      (pss_cons (ps_if (PW.pt (pw_or (pt_cmpR op_isN (pv 1) pe_non (nomark _)) (pw_or1 (pt_cmpR op_isN (pv 0) pe_non (nomark _)))))
        (pss_one (ps_ret (pe_and (pe_cmpR op_isN (pv 1) pe_non (nomark _)) (pe_one (pe_cmpR op_isN (pv 0) pe_non (nomark _))))))
        pss_nil)
      (pss_cons (ps_if (PW.pt (pw_or (pt_cmpR op_ne (pe_callB call_isi (by rfl) T.isinstance (by decide +kernel) (pa_cons (pv 0) (pa_cons (pe_bltn (v := .ty "bool") (by rfl) T.bool (by decide +kernel) rfl) pa_nil))) (pe_callB call_isi (by rfl) T.isinstance (by decide +kernel) (pa_cons (pv 1) (pa_cons (pe_bltn (v := .ty "bool") (by rfl) T.bool (by decide +kernel) rfl) pa_nil))) (nomark _)) (pw_or1 (pt_cmpR op_ne (pe_callB call_isi (by rfl) T.isinstance (by decide +kernel) (pa_cons (pv 0) (pa_cons (pe_bltn (v := .ty "int") (by rfl) T.int (by decide +kernel) rfl) pa_nil))) (pe_callB call_isi (by rfl) T.isinstance (by decide +kernel) (pa_cons (pv 1) (pa_cons (pe_bltn (v := .ty "int") (by rfl) T.int (by decide +kernel) rfl) pa_nil))) (nomark _)))))
        (pss_one (ps_ret pe_bl))
        pss_nil)
      (pss_one (ps_ret (pe_and (pe_cmpR op_eq (pe_callB call_isi (by rfl) T.isinstance (by decide +kernel) (pa_cons (pv 0) (pa_cons (pe_bltn (v := .ty "str") (by rfl) T.str (by decide +kernel) rfl) pa_nil))) (pe_callB call_isi (by rfl) T.isinstance (by decide +kernel) (pa_cons (pv 1) (pa_cons (pe_bltn (v := .ty "str") (by rfl) T.str (by decide +kernel) rfl) pa_nil))) (nomark _)) (pe_one (pe_cmpR op_eq (pv 0) (pv 1) (nomark _))))))))), ?_⟩
    show (_ : TS) _ [some _, some _, none, none] _
    try dsimp only [cxOf, Cx.nox]
    cases he with
    | non n =>
      walk_at "run"
      exact k _ (by walk_at "ext")
    | bl n b =>
      walk_at "run"
      rw [decide_eq_true rfl]
      exact k _ (by walk_at "ext")
    | int n i =>
      walk_at "run"
      rw [decide_eq_true rfl]
      exact k _ (by walk_at "ext")
    | str n z =>
      walk_at "run"
      rw [decide_eq_true rfl]
      exact k _ (by walk_at "ext")
    | @tup n a b xs ys ha hb hl h4 h =>
      walk_at "run"
      refine r_true (len_is (by rw [hl])) ?_
      walk_at "run"
      refine ⟨a, b, xs, ys, rfl, .inr ⟨by walk_at "sq", by walk_at "sq", fun D hD => ?_⟩⟩
      generalize hH : upd H _ _ = H0 at *
      have e0 : Ext [] H H0 := by
        rw [← hH]
        walk_at "ext"
      refine r_lcZT hl (fun i H1 => Ext [] H0 H1 ∧ H1 D = some (.lst ((List.replicate i true).map V.bl))) ⟨Ext.refl.new hD, upd_same⟩ (fun i H1 p => ⟨tup0 (e0.trans p.1) ha, tup0 (e0.trans p.1) hb⟩) ?_ ?_
      · rintro i x y T H1 hx hy ⟨e1, hD1⟩ hT
        walk_at "run"
        refine ⟨rfl, ?_⟩
        walk_at "run"
        have hi : i < xs.length := (List.getElem?_eq_some_iff.mp hx).1
        have e2 : Ext [] H0 (upd H1 T (.tup [x, y])) := e1.new hT
        refine ⟨x, y, rfl, (h i x y hx hy).x0 (e0.trans e2), fun H2 e3 => ?_⟩
        have hD2 : H2 D = some (.lst ((List.replicate i true).map V.bl)) := e3 _ _ (by rw [upd_ne (ne_of_none hD1 hT)]; exact hD1) fun z => nomatch z
        refine ⟨_, hD2, ?_, (e2.trans e3).own hD, ?_⟩
        · rw [List.length_map, List.length_replicate]
          exact Nat.lt_of_le_of_lt (by omega : i ≤ 4000) (by decide)
        · rw [List.replicate_succ', List.map_append]
          exact upd_same
      · rintro H1 ⟨e1, hD1⟩
        walk_at "run"
        refine r_all (bs := List.replicate xs.length true) (.inl (.inl hD1)) ?_
        rw [show (List.replicate xs.length true).all id = true by simp]
        exact k _ (e0.trans e1)
    | @lst n a b xs ys ha hb hl h4 h =>
      walk_at "run"
      refine r_true (len_is (by rw [hl])) ?_
      walk_at "run"
      refine ⟨a, b, xs, ys, rfl, .inl ⟨by walk_at "sq", by walk_at "sq", fun D hD => ?_⟩⟩
      generalize hH : upd H _ _ = H0 at *
      have e0 : Ext [] H H0 := by
        rw [← hH]
        walk_at "ext"
      refine r_lcZL hl (fun i H1 => Ext [] H0 H1 ∧ H1 D = some (.lst ((List.replicate i true).map V.bl))) ⟨Ext.refl.new hD, upd_same⟩ (fun i H1 p => ⟨lst0 (e0.trans p.1) ha, lst0 (e0.trans p.1) hb⟩) ?_ ?_
      · rintro i x y T H1 hx hy ⟨e1, hD1⟩ hT
        walk_at "run"
        refine ⟨rfl, ?_⟩
        walk_at "run"
        have hi : i < xs.length := (List.getElem?_eq_some_iff.mp hx).1
        have e2 : Ext [] H0 (upd H1 T (.tup [x, y])) := e1.new hT
        refine ⟨x, y, rfl, (h i x y hx hy).x0 (e0.trans e2), fun H2 e3 => ?_⟩
        have hD2 : H2 D = some (.lst ((List.replicate i true).map V.bl)) := e3 _ _ (by rw [upd_ne (ne_of_none hD1 hT)]; exact hD1) fun z => nomatch z
        refine ⟨_, hD2, ?_, (e2.trans e3).own hD, ?_⟩
        · rw [List.length_map, List.length_replicate]
          exact Nat.lt_of_le_of_lt (by omega : i ≤ 4000) (by decide)
        · rw [List.replicate_succ', List.map_append]
          exact upd_same
      · rintro H1 ⟨e1, hD1⟩
        walk_at "run"
        refine r_all (bs := List.replicate xs.length true) (.inl (.inl hD1)) ?_
        rw [show (List.replicate xs.length true).all id = true by simp]
        exact k _ (e0.trans e1)
end
end Yk

set_option maxHeartbeats 4000000
namespace Yk
open PySem PySem.Spec PyProof.Rows L2

/-! Drawn amounts. -/
theorem of_intN {K : PySem.W.Frag} {H : Hp} {b : Bag} {l : Addr} {ns : List Int} {Q : VK} {E : XK} (hb : BagAt K H b) (hl : SqL K H l (ns.map V.int)) (hne : b.a ≠ l) (h0 : 0 < ns.length) (h4 : ns.length ≤ 4000) (k : ∀ x H', x ∈ ns → BagAt K H' b → Ext [b.a] H H' → Q (.int x) H') : spOf K [.ref b.a, .ref l] H Q E :=
  ⟨b, l, _, rfl, hb, hl, hne, by rw [List.length_map]; exact h0, by rw [List.length_map]; exact h4, fun i x H' hx hb' e => by
    rw [List.getElem?_map] at hx
    cases e2 : ns[i]? with
    | none => rw [e2] at hx; cases hx
    | some z => rw [e2] at hx; cases hx; exact k z H' (List.mem_of_getElem? e2) hb' e⟩
def spSome (K : PySem.W.Frag) : Sp := fun vs H Q _ => ∃ (b : Bag) (M : Nat), vs = [.ref b.a, .int (M : Int)] ∧ BagAt K H b ∧ M ≤ 2 ^ 60 ∧ ∀ v q H', Am K H' v q → In 30 M q → BagAt K H' b → Ext [b.a] H H' → Q v H'
section
variable {P : Program} {w : World} {K : PySem.W.Frag} {mg : Str → Option Value} {base : Heap} {f : Addr} {fd : FuncData}
abbrev s_law_some : Stmt := top 32
theorem c_law_some : FnScope ["_law_bag_here", "_law_most", "_law_bottom"] ["_law_bag_here", "_law_most"] (defScope s_law_some) := ⟨rfl, rfl, rfl, by decide +kernel, rfl, by decide +kernel, by decide +kernel⟩
theorem f_law_some (F : FunD K "_law_some" "_law_some" (defArgs s_law_some) (defBody s_law_some) (defScope s_law_some) [] [] f fd) (hm : mg "_law_some" = some (.ref f)) (T : Bt mg) (F_law_draw : Fn P w K mg base 1 "_law_draw" (spDraw K)) (F_law_of : Fn P w K mg base 2 "_law_of" (spOf K)) (F_law_amount : Fn P w K mg base 1 "_law_amount" (spPair K)) : Fn P w K mg base 3 "_law_some" (spSome K) := by
  refine fn_def F hm c_law_some (fun vs H Q E h => ?_) (fun _ _ _ _ _ _ us hl => match us, hl with | [_, _], _ => rfl) (fun cdv A outer s H vs Q E hr h => ?_)
  · obtain ⟨b, M, rfl, _⟩ := h
    rfl
  · obtain ⟨b, M, rfl, hb, hM, k⟩ := h
    have nd := c_law_some.nd
    refine ⟨_, (pss_cons (ps_set (i := 2) nd rfl (by first | exact Or.inl rfl | exact Or.inr rfl) (pe_fn F_law_of (hr.mono (by decide)) (pa_cons (pv 0) (pa_cons (pe_lst (pa_cons pe_int (pa_cons pe_int (pa_cons pe_int (pa_cons pe_int (pa_cons pe_int (pa_cons pe_int (pa_cons pe_int (pa_cons pe_int pa_nil))))))))) pa_nil))))
      (pss_one (ps_ret (pe_fn F_law_amount (hr.mono (by decide)) (pa_cons (pe_fn F_law_draw (hr.mono (by decide)) (pa_cons (pv 0) (pa_cons (pe_op op_add (pe_op op_mulW (pv 1) (pv 2)) pe_int) pa_nil))) (pa_cons (pv 2) pa_nil)))))), ?_⟩
    show (_ : TS) _ [some _, some _, none] _
    try dsimp only [cxOf, Cx.nox]
    walk_at "go"
    rename_i p hp
    refine of_intN (ns := [1, 1, 2, 1, 3, 1, 2, 5]) (hb.new hp) lstS (hb.ne hp) (Nat.zero_lt_succ _) (show 8 ≤ 4000 by decide) fun x H1 hx b1 n1 => ?_
    obtain ⟨d, rfl, d0, d5, dd⟩ : ∃ d : Nat, x = (d : Int) ∧ 0 < d ∧ d ≤ 5 ∧ d ∣ 30 := by
      simp only [List.mem_cons, List.not_mem_nil, or_false] at hx
      rcases hx with rfl | rfl | rfl | rfl | rfl | rfl | rfl | rfl
      · exact ⟨1, rfl, by decide, by decide, by decide⟩
      · exact ⟨1, rfl, by decide, by decide, by decide⟩
      · exact ⟨2, rfl, by decide, by decide, by decide⟩
      · exact ⟨1, rfl, by decide, by decide, by decide⟩
      · exact ⟨3, rfl, by decide, by decide, by decide⟩
      · exact ⟨1, rfl, by decide, by decide, by decide⟩
      · exact ⟨2, rfl, by decide, by decide, by decide⟩
      · exact ⟨5, rfl, by decide, by decide, by decide⟩
    have e1 : Ext [b.a] H H1 := Ext.trans (Ext.refl.new hp) n1
    have h60 : M ≤ 1152921504606846976 := hM
    have mw : CMulW (M : Int) (d : Int) := cmul (m := 61) (n := 4) (Nat.lt_of_le_of_lt (by omega : (M : Int).natAbs ≤ 1152921504606846976) (by decide)) (Nat.lt_of_le_of_lt (by omega : (d : Int).natAbs ≤ 5) (by decide)) (by decide) (by decide) (by decide)
    have hmd : M * d ≤ 1152921504606846976 * 5 := Nat.mul_le_mul h60 d5
    walk_at "go"
    have e2 : (M : Int) * (d : Int) = ((M * d : Nat) : Int) := by rw [Int.natCast_mul]
    rw [e2]
    refine k_draw b1 (by omega) (Int.lt_of_le_of_lt (by omega : ((M * d : Nat) : Int) + 1 ≤ 1152921504606846976 * 5 + 1) (by decide)) fun y H2 y0 y1 b2 n2 => ?_
    walk_at "go"
    refine ⟨y.toNat, d, by rw [Int.toNat_of_nonneg y0], d0, Nat.lt_of_le_of_lt (by omega : y.toNat ≤ 1152921504606846976 * 5) (Nat.lt_of_lt_of_le (by decide) (Nat.pow_le_pow_right (by decide) (by decide : 100 ≤ 8900))), Nat.lt_of_le_of_lt d5 (Nat.lt_of_lt_of_le (by decide) (Nat.pow_le_pow_right (by decide) (by decide : 100 ≤ 8900))), fun v H3 e3 a3 => ?_⟩
    exact k v _ H3 a3 (In.frac d0 dd (by omega)) (b2.x0 e3) (e1.trans (n2.trans (e3.mono fun _ z => nomatch z)))
/-- a part: so many of so many -/
structure PartQ (q r : Rat) : Prop where
  ex : ∃ a b : Nat, a ≤ b ∧ 0 < b ∧ b ∣ 30 ∧ r = q * mkRat (a : Int) b
theorem PartQ.le {q r : Rat} (h : PartQ q r) (h0 : 0 ≤ q) : 0 ≤ r ∧ r ≤ q := by
  obtain ⟨a, b, hab, hb, _, rfl⟩ := h.ex
  have i : In b 1 (mkRat (a : Int) b) := In.frac hb (Nat.dvd_refl b) (by omega)
  have h1 := i.le
  have h2 := Rat.mul_le_mul_of_nonneg_left h1 h0
  refine ⟨Rat.mul_nonneg h0 i.nn, ?_⟩
  have e : q * ((1 : Nat) : Rat) = q := by norm_cast; grind
  rw [e] at h2
  exact h2
theorem PartQ.in_ {D M : Nat} {q r : Rat} (h : PartQ q r) (i : In D M q) : In (D * 30) M r := by
  obtain ⟨a, b, hab, hb, hd, e⟩ := h.ex
  have h1 : In 30 1 (mkRat (a : Int) b) := In.frac hb hd (by omega)
  have h2 := i.mul h1
  rw [e]
  rw [Nat.mul_one] at h2
  exact h2
def spPart (K : PySem.W.Frag) : Sp := fun vs H Q _ => ∃ (b : Bag) (v : V) (q : Rat), vs = [.ref b.a, v] ∧ BagAt K H b ∧ Am K H v q ∧ 0 ≤ q ∧ Sz 4000 q ∧ ∀ u r H', Am K H' u r → PartQ q r → BagAt K H' b → Ext [b.a] H H' → Q u H'
theorem part_pairs : ∀ p ∈ ([(1, 1), (0, 1), (1, 2), (1, 1), (2, 3), (1, 5)] : List (Nat × Nat)), p.1 ≤ p.2 ∧ 0 < p.2 ∧ p.2 ∣ 30 ∧ p.2 ≤ 5 := by decide
/-- a row of pairs of numbers -/
def Prs2 (K : PySem.W.Frag) (H : Hp) (xs : List V) (ps : List (Nat × Nat)) : Prop := Rel (fun v p => ∃ a, v = V.ref a ∧ SqT K H a [.int (p.1 : Int), .int (p.2 : Int)]) xs ps
abbrev s_law_part : Stmt := top 33
theorem c_law_part : FnScope ["_law_bag_here", "_law_one", "_law_top", "_law_bottom"] ["_law_bag_here", "_law_one"] (defScope s_law_part) := ⟨rfl, rfl, rfl, by decide +kernel, rfl, by decide +kernel, by decide +kernel⟩
theorem f_law_part (F : FunD K "_law_part" "_law_part" (defArgs s_law_part) (defBody s_law_part) (defScope s_law_part) [] [] f fd) (hm : mg "_law_part" = some (.ref f)) (T : Bt mg) (F_law_of : Fn P w K mg base 2 "_law_of" (spOf K)) (F_law_scaled : Fn P w K mg base 2 "_law_scaled" (spScaled K)) : Fn P w K mg base 3 "_law_part" (spPart K) := by
  refine fn_def F hm c_law_part (fun vs H Q E h => ?_) (fun _ _ _ _ _ _ us hl => match us, hl with | [_, _], _ => rfl) (fun cdv A outer s H vs Q E hr h => ?_)
  · obtain ⟨b, v, q, rfl, _⟩ := h
    rfl
  · obtain ⟨b, v, q, rfl, hb, hv, q0, hz, k⟩ := h
    have nd := c_law_part.nd
    refine ⟨_, (pss_cons (ps_asg (pe_fn F_law_of (hr.mono (by decide)) (pa_cons (pv 0) (pa_cons (pe_lst (pa_cons (pe_tup (pa_cons pe_int (pa_cons pe_int pa_nil))) (pa_cons (pe_tup (pa_cons pe_int (pa_cons pe_int pa_nil))) (pa_cons (pe_tup (pa_cons pe_int (pa_cons pe_int pa_nil))) (pa_cons (pe_tup (pa_cons pe_int (pa_cons pe_int pa_nil))) (pa_cons (pe_tup (pa_cons pe_int (pa_cons pe_int pa_nil))) (pa_cons (pe_tup (pa_cons pe_int (pa_cons pe_int pa_nil))) pa_nil))))))) pa_nil))) (pg_tup rfl (pgs_cons (pg_name (i := 2) nd rfl (by first | exact Or.inl rfl | exact Or.inr rfl)) (pgs_cons (pg_name (i := 3) nd rfl (by first | exact Or.inl rfl | exact Or.inr rfl)) pgs_nil))))
      (pss_one (ps_ret (pe_fn F_law_scaled (hr.mono (by decide)) (pa_cons (pv 1) (pa_cons (pv 2) (pa_cons (pv 3) pa_nil))))))), ?_⟩
    show (_ : TS) _ [some _, some _, none, none] _
    try dsimp only [cxOf, Cx.nox]
    walk_at "go"
    rename_i p1 h1 p2 h2 p3 h3 p4 h4 p5 h5 p6 h6 p hp
    have hbn : b.a ≠ p := BagAt.ne (hb.x0 (by walk_at "ext")) hp
    generalize hG : upd _ p _ = H1
    have e1 : Ext [] H H1 := by rw [← hG]; walk_at "ext"
    have hl : SqL K H1 p [.ref p1, .ref p2, .ref p3, .ref p4, .ref p5, .ref p6] := by rw [← hG]; exact lstS
    have hr : Prs2 K H1 [.ref p1, .ref p2, .ref p3, .ref p4, .ref p5, .ref p6] [(1, 1), (0, 1), (1, 2), (1, 1), (2, 3), (1, 5)] := by
      rw [← hG]
      refine .cons ⟨_, rfl, by walk_at "sq"⟩ (.cons ⟨_, rfl, by walk_at "sq"⟩ (.cons ⟨_, rfl, by walk_at "sq"⟩ (.cons ⟨_, rfl, by walk_at "sq"⟩ (.cons ⟨_, rfl, by walk_at "sq"⟩ (.cons ⟨_, rfl, by walk_at "sq"⟩ .nil)))))
    have b1 := hb.x0 e1
    refine ⟨b, p, _, rfl, b1, hl, hbn, Nat.zero_lt_succ _, show 6 ≤ 4000 by decide, fun i x H2 hx b2 n2 => ?_⟩
    obtain ⟨⟨s, t⟩, hst, a, rfl, ha⟩ := hr.at_ hx
    obtain ⟨hst1, ht0, htd, ht5⟩ := part_pairs _ (List.mem_of_getElem? hst)
    have ha2 : SqT K H2 a [.int (s : Int), .int (t : Int)] := tupX n2 ha fun x hx => by rw [List.mem_singleton.mp hx]; exact b1.lst
    walk_at "go"
    have lt4 : ∀ n : Nat, n ≤ 5 → n < 2 ^ 400 := fun n hn => Nat.lt_of_le_of_lt hn (Nat.lt_of_lt_of_le (by decide) (Nat.pow_le_pow_right (by decide) (by decide : 100 ≤ 400)))
    dsimp only at hst1 ht0 htd ht5
    refine ⟨v, q, s, t, rfl, (hv.x0 e1).b b1 n2, q0, ht0, hz, lt4 s (by omega), lt4 t ht5, fun u H3 e3 a3 => ?_⟩
    exact k u _ H3 a3 ⟨s, t, hst1, ht0, htd, rfl⟩ (b2.x0 e3) (e1.mono (fun _ z => nomatch z) |>.trans (n2.trans (e3.mono fun _ z => nomatch z)))
end
end Yk

set_option maxHeartbeats 4000000
namespace Yk
open PySem PySem.Spec PyProof.Rows L2

/-! Sums of rows by the law. -/
theorem szG {X M : Nat} {q : Rat} (h : In X M q) (h0 : 0 < X) (hX : X ≤ 2 ^ 400) (hM : M ≤ 2 ^ 400) : Sz 4000 q := (h.sz h0 hX hM).mono (by decide)
theorem sum_in {X M : Nat} : ∀ {l : List Rat}, (∀ q ∈ l, In X M q) → In X (l.length * M) (sumQ l)
  | [], _ => In.zero
  | q :: l, h => by
    rw [sumQ_cons, List.length_cons, Nat.add_mul, Nat.one_mul, Nat.add_comm]
    exact (h q List.mem_cons_self).add (sum_in fun x hx => h x (List.mem_cons_of_mem _ hx))
section
variable {P : Program} {w : World} {K : PySem.W.Frag} {mg : Str → Option Value} {base : Heap} {f : Addr} {fd : FuncData}
def spLAll (K : PySem.W.Frag) : Sp := fun vs H Q _ => ∃ t xs qs X M, vs = [V.ref t] ∧ SqL K H t xs ∧ Ams K H xs qs ∧ (∀ q ∈ qs, In X M q) ∧ 0 < X ∧ X ≤ 2 ^ 400 ∧ qs.length * M ≤ 2 ^ 400 ∧ RetAm K H Q (sumQ qs)
abbrev s_law_all : Stmt := top 30
theorem c_law_all : FnScope ["_law_row", "_law_found", "_law_one"] ["_law_row"] (defScope s_law_all) := ⟨rfl, rfl, rfl, by decide +kernel, rfl, by decide +kernel, by decide +kernel⟩
theorem f_law_all (F : FunD K "_law_all" "_law_all" (defArgs s_law_all) (defBody s_law_all) (defScope s_law_all) [] [] f fd) (hm : mg "_law_all" = some (.ref f)) (F_law_sum : Fn P w K mg base 2 "_law_sum" (sp2 (fun _ _ => True) (· + ·) K)) : Fn P w K mg base 3 "_law_all" (spLAll K) := by
  refine fn_def F hm c_law_all (fun vs H Q E h => ?_) (fun _ _ _ _ _ _ us hl => match us, hl with | [_], _ => rfl) (fun cdv A outer s H vs Q E hr h => ?_)
  · obtain ⟨t, xs, qs, X, M, rfl, _⟩ := h
    rfl
  · obtain ⟨t, xs, qs, X, M, rfl, ht, ha, hz, hX, hX4, hl, k⟩ := h
    have nd := c_law_all.nd
    refine ⟨_, (pss_cons (ps_set (i := 1) nd rfl (by first | exact Or.inl rfl | exact Or.inr rfl) (pe_tup (pa_cons pe_int (pa_cons pe_int pa_nil))))
      (pss_cons (ps_for PassesOwn.never rfl (pi_list (pv 0)) (pg_name (i := 2) nd rfl (by first | exact Or.inl rfl | exact Or.inr rfl))
        (pss_one (ps_set (i := 1) nd rfl (by first | exact Or.inl rfl | exact Or.inr rfl) (pe_fn F_law_sum (hr.mono (by decide)) (pa_cons (pv 1) (pa_cons (pv 2) pa_nil))))))
      (pss_one (ps_ret (pv 1))))), ?_⟩
    show (_ : TS) _ [some _, none, none] _
    try dsimp only [cxOf, Cx.nox]
    walk_at "go"
    refine r_forL rfl (by walk_at "sq") (fun i σ H1 => Ext [] H H1 ∧ ∃ fv u, σ = [some (.ref t), some fv, u] ∧ Am K H1 fv (sumQ (qs.take i))) ⟨Ext.refl.new (by assumption), _, _, rfl, ⟨_, rfl, tupS⟩⟩ (fun i σ H1 _ h => lst0 h.1 ht) ?_ ?_
    · rintro i x σ H1 hx ⟨e1, fv, u, rfl, hf⟩
      have hi : i < qs.length := by rw [← ha.1]; exact (List.getElem?_eq_some_iff.mp hx).1
      have hq : qs[i]? = some qs[i] := List.getElem?_eq_getElem hi
      have hM : qs.length * M ≤ 2 ^ 400 := hl
      have h1M : M ≤ qs.length * M := Nat.le_mul_of_pos_left M (by omega)
      have hb : In X (qs.length * M) (sumQ (qs.take i)) := (sum_in fun q hq => hz q (List.mem_of_mem_take hq)).most (Nat.mul_le_mul_right M (by rw [List.length_take]; omega))
      have hq0 := hz _ (List.getElem_mem hi)
      walk_at "go"
      refine ⟨_, _, _, qs[i], rfl, hf, (ha.2 i x _ hx hq).x0 e1, szG hb hX hX4 hM, szG hq0 hX hX4 (Nat.le_trans h1M hM), hb.nn, hq0.nn, trivial, fun v H' e a => ?_⟩
      walk_at "go"
      refine ⟨e1.trans e, _, _, rfl, ?_⟩
      rw [sumQ_take hq]
      exact a
    · rintro σ H1 ⟨e1, fv, u, rfl, hf⟩
      walk_at "go"
      rw [ha.1, List.take_length] at hf
      exact k _ _ e1 hf
end
end Yk

set_option maxHeartbeats 4000000
namespace Yk
open PySem PySem.Spec PyProof.Rows L2

/-! plus, told of multiples of one part. -/
section
variable {P : Program} {w : World} {K : PySem.W.Frag} {mg : Str → Option Value} {base : Heap} {f : Addr} {fd : FuncData}
def spPlusIT (K : PySem.W.Frag) : Sp := fun vs H Q _ => ∃ t xs qs X M, vs = [V.ref t] ∧ SqT K H t xs ∧ Ams K H xs qs ∧ (∀ q ∈ qs, In X M q) ∧ 0 < X ∧ X ≤ 2 ^ 400 ∧ qs.length * M ≤ 2 ^ 400 ∧ RetAm K H Q (sumQ qs)
def spPlusI (K : PySem.W.Frag) : Sp := fun vs H Q _ => ∃ qs X M, Ams K H vs qs ∧ (∀ q ∈ qs, In X M q) ∧ 0 < X ∧ X ≤ 2 ^ 400 ∧ qs.length * M ≤ 2 ^ 400 ∧ qs.length ≤ 4000 ∧ RetAm K H Q (sumQ qs)
theorem g_plus (F : FunD K "plus" "plus" (defArgs s_plus) (defBody s_plus) (defScope s_plus) [] [] f fd) (hm : mg "plus" = some (.ref f)) (TZ : ∃ z, mg "ZERO" = some (.ref z) ∧ ∀ H, SqT K H z [.int 0, .int 1]) (F_added : Fn P w K mg base 1 "_added" (spAdded K)) : Fn P w K mg base 2 "plus" (spPlusI K) := by
  refine fn_star (ps := []) (pv := "amounts") (sp := spPlusIT K) F hm c_plus (fun _ _ _ _ _ _ us rest hl => match us, rest, hl with | [], [], _ => rfl | [], _ :: _, _ => rfl) (fun cdv A outer s H vs Q E hr h => ?_) ?himp
  case himp =>
    exact fun vs H Q E ⟨qs, X, M, h1, h2, h3, h4, h5, h6, k⟩ => ⟨[], vs, rfl, rfl, Nat.le_trans (by rw [h1.1]; exact h6 : vs.length ≤ 4000) (by decide), fun p hp => ⟨p, vs, qs, X, M, rfl, tupS, h1.x0 (Ext.refl.new hp), h2, h3, h4, h5, fun v H' e a => k v H' ((Ext.refl.new hp).trans e) a⟩⟩
  · obtain ⟨t, xs, qs, X, M, rfl, ht, ha, hz, hX, hX4, hl, k⟩ := h
    have nd := c_plus.nd
    obtain ⟨z, mz, TZ⟩ := TZ
    refine ⟨_, (pss_cons (ps_set (i := 1) nd rfl (by first | exact Or.inl rfl | exact Or.inr rfl) (pe_glob (v := .ref z) rfl mz rfl))
      (pss_cons (ps_for PassesOwn.never rfl (pi_tup (pv 0)) (pg_name (i := 2) nd rfl (by first | exact Or.inl rfl | exact Or.inr rfl))
        (pss_one (ps_set (i := 1) nd rfl (by first | exact Or.inl rfl | exact Or.inr rfl) (pe_fn F_added (hr.mono (by decide)) (pa_cons (pv 1) (pa_cons (pv 2) pa_nil))))))
      (pss_one (ps_ret (pv 1))))), ?_⟩
    show (_ : TS) _ [some _, none, none] _
    try dsimp only [cxOf, Cx.nox]
    walk_at "go"
    refine r_forT rfl ht (fun i σ H1 => Ext [] H H1 ∧ ∃ fv u, σ = [some (.ref t), some fv, u] ∧ Am K H1 fv (sumQ (qs.take i))) ⟨Ext.refl, _, _, rfl, ⟨z, rfl, TZ _⟩⟩ (fun i σ H1 _ h => tup0 h.1 ht) ?_ ?_
    · rintro i x σ H1 hx ⟨e1, fv, u, rfl, hf⟩
      have hi : i < qs.length := by rw [← ha.1]; exact (List.getElem?_eq_some_iff.mp hx).1
      have hq : qs[i]? = some qs[i] := List.getElem?_eq_getElem hi
      have hM : qs.length * M ≤ 2 ^ 400 := hl
      have h1M : M ≤ qs.length * M := Nat.le_mul_of_pos_left M (by omega)
      have hb : In X (qs.length * M) (sumQ (qs.take i)) := (sum_in fun q hq => hz q (List.mem_of_mem_take hq)).most (Nat.mul_le_mul_right M (by rw [List.length_take]; omega))
      have hq0 := hz _ (List.getElem_mem hi)
      walk_at "go"
      refine ⟨_, _, _, qs[i], rfl, hf, (ha.2 i x _ hx hq).x0 e1, szG hb hX hX4 hM, szG hq0 hX hX4 (Nat.le_trans h1M hM), fun v H' e a => ?_⟩
      walk_at "go"
      refine ⟨e1.trans e, _, _, rfl, ?_⟩
      rw [sumQ_take hq]
      exact a
    · rintro σ H1 ⟨e1, fv, u, rfl, hf⟩
      walk_at "go"
      rw [ha.1, List.take_length] at hf
      exact k _ _ e1 hf
end
end Yk

set_option maxHeartbeats 4000000
namespace Yk
open PySem PySem.Spec PyProof.Rows L2
/-! Tables with numbers as keys: what a hop remembers. -/
section
variable {κ α : Type} [DecidableEq κ]
abbrev ND (c : List (κ × α)) : Prop := (c.map (·.1)).Nodup
theorem gv_nil {k : κ} : gv ([] : List (κ × α)) k = none := rfl
theorem gv_cons (p : κ × α) (c : List (κ × α)) (k : κ) : gv (p :: c) k = if p.1 = k then some p.2 else gv c k := by
  unfold gv
  rw [List.find?_cons]
  by_cases e : p.1 = k
  · rw [decide_eq_true e, if_pos e]; rfl
  · rw [decide_eq_false e, if_neg e]
theorem gv_any (k : κ) : ∀ c : List (κ × α), (c.any fun p => decide (p.1 = k)) = (gv c k).isSome
  | [] => rfl
  | p :: c => by
    rw [List.any_cons, gv_cons]
    by_cases e : p.1 = k
    · rw [decide_eq_true e, if_pos e]; rfl
    · rw [decide_eq_false e, if_neg e, Bool.false_or, gv_any k c]
theorem gv_map (k j : κ) (y : α) : ∀ c : List (κ × α), gv (c.map fun p => if p.1 = k then (p.1, y) else p) j = (gv c j).map fun x => if j = k then y else x
  | [] => rfl
  | p :: c => by
    rw [List.map_cons, gv_cons, gv_cons, gv_map k j y c]
    by_cases h : p.1 = k
    · rw [if_pos h]
      by_cases e : p.1 = j
      · rw [if_pos e, if_pos e, Option.map_some, if_pos (e.symm.trans h)]
      · rw [if_neg e, if_neg e]
    · rw [if_neg h]
      by_cases e : p.1 = j
      · rw [if_pos e, if_pos e, Option.map_some, if_neg (fun z => h (e.trans z))]
      · rw [if_neg e, if_neg e]
theorem gv_app (j : κ) (d : List (κ × α)) : ∀ c : List (κ × α), gv (c ++ d) j = (gv c j).or (gv d j)
  | [] => rfl
  | p :: c => by
    rw [List.cons_append, gv_cons, gv_cons, gv_app j d c]
    by_cases e : p.1 = j
    · rw [if_pos e, if_pos e]; rfl
    · rw [if_neg e, if_neg e]
theorem gp_new {c : List (κ × α)} {k : κ} (y : α) (h : gv c k = none) : gp c k y = c ++ [(k, y)] := by
  unfold gp
  rw [gv_any, h, if_neg (by simp)]
theorem gv_gp (c : List (κ × α)) (k j : κ) (y : α) : gv (gp c k y) j = if j = k then some y else gv c j := by
  unfold gp
  rw [gv_any]
  cases h : gv c k with
  | none =>
    rw [if_neg (by simp), gv_app, gv_cons]
    by_cases e : j = k
    · subst e
      rw [h, if_pos rfl, if_pos rfl]; rfl
    · rw [if_neg (fun z => e z.symm), if_neg e, gv_nil]
      cases gv c j <;> rfl
  | some x =>
    rw [if_pos (by rfl), gv_map]
    by_cases e : j = k
    · subst e
      rw [h, if_pos rfl, Option.map_some, if_pos rfl]
    · rw [if_neg e]
      cases gv c j with
      | none => rfl
      | some z => rw [Option.map_some, if_neg e]
theorem gv_none {k : κ} : ∀ {c : List (κ × α)}, gv c k = none ↔ k ∉ c.map (·.1)
  | [] => by simp [gv]
  | p :: c => by
    rw [gv_cons, List.map_cons, List.mem_cons]
    by_cases e : p.1 = k
    · rw [if_pos e]; simp [e]
    · rw [if_neg e, gv_none]
      exact ⟨fun h => by rintro (z | z); exact e z.symm; exact h z, fun h z => h (.inr z)⟩
theorem gv_iff {k : κ} {y : α} : ∀ {c : List (κ × α)}, ND c → (gv c k = some y ↔ (k, y) ∈ c)
  | [], _ => by simp [gv]
  | p :: c, h => by
    have h' := List.nodup_cons.mp (show (p.1 :: c.map (·.1)).Nodup from h)
    rw [gv_cons, List.mem_cons]
    by_cases e : p.1 = k
    · rw [if_pos e]
      constructor
      · intro z
        left
        rw [← e, ← Option.some.inj z]
      · rintro (z | z)
        · rw [← z]
        · exact absurd (by rw [e]; exact List.mem_map_of_mem (f := (·.1)) z) h'.1
    · rw [if_neg e, gv_iff h'.2]
      exact ⟨fun z => .inr z, fun z => z.resolve_left fun q => e (by rw [← q])⟩
theorem nd_gp {c : List (κ × α)} (h : ND c) (k : κ) (y : α) : ND (gp c k y) := by
  unfold gp
  rw [gv_any]
  cases e : gv c k with
  | none =>
    rw [if_neg (by simp)]
    show ((c ++ [(k, y)]).map (·.1)).Nodup
    rw [List.map_append, List.nodup_append]
    refine ⟨h, by simp, ?_⟩
    intro a ha b hb
    have := gv_none.mp e
    simp at hb
    rw [hb]
    exact fun z => this (z ▸ ha)
  | some x =>
    rw [if_pos (by rfl)]
    unfold ND
    rw [List.map_map]
    have e2 : ((·.1) ∘ fun p : κ × α => if p.1 = k then (p.1, y) else p) = (·.1) := by
      funext p
      show (if p.1 = k then (p.1, y) else p).1 = p.1
      split <;> rfl
    rw [e2]
    exact h
theorem gp_len (c : List (κ × α)) (k : κ) (y : α) : (gp c k y).length ≤ c.length + 1 := by
  unfold gp
  split
  · rw [List.length_map]; omega
  · simp
theorem gp_mem {c : List (κ × α)} {k : κ} {y : α} {p : κ × α} (h : p ∈ gp c k y) : p.2 = y ∨ p ∈ c := by
  unfold gp at h
  split at h
  · obtain ⟨q, hq, e⟩ := List.mem_map.mp h
    split at e
    · left; rw [← e]
    · right; rw [← e]; exact hq
  · rcases List.mem_append.mp h with h | h
    · exact .inr h
    · left; rw [List.mem_singleton.mp h]
theorem nd_filter {c : List (κ × α)} (h : ND c) (f : κ × α → Bool) : ND (c.filter f) := by
  have h1 := List.pairwise_map.mp h
  exact List.pairwise_map.mpr (h1.filter f)
theorem nd_pairs {c : List (κ × α)} (h : ND c) : c.Nodup := (List.pairwise_map.mp h).imp fun z q => z (by rw [q])
theorem perm_of {c c' : List (κ × α)} {f : κ → Bool} (h : ND c) (h' : ND c') (e : ∀ k, f k = true → gv c k = gv c' k) : (c.filter fun p => f p.1).Perm (c'.filter fun p => f p.1) := by
  refine (List.perm_ext_iff_of_nodup (nd_pairs (nd_filter h _)) (nd_pairs (nd_filter h' _))).mpr fun p => ?_
  rw [List.mem_filter, List.mem_filter]
  constructor
  · rintro ⟨h1, h2⟩
    exact ⟨(gv_iff (k := p.1) (y := p.2) h').mp (by rw [← e p.1 h2]; exact (gv_iff h).mpr h1), h2⟩
  · rintro ⟨h1, h2⟩
    exact ⟨(gv_iff (k := p.1) (y := p.2) h).mp (by rw [e p.1 h2]; exact (gv_iff h').mpr h1), h2⟩
theorem gv_filter (f : κ → Bool) (k : κ) : ∀ c : List (κ × α), gv (c.filter fun p => f p.1) k = if f k = true then gv c k else none
  | [] => by simp [gv]
  | p :: c => by
    rw [List.filter_cons]
    by_cases e : p.1 = k
    · by_cases hf : f p.1 = true
      · rw [if_pos hf, gv_cons, if_pos e, ← e, if_pos hf, gv_cons, if_pos rfl]
      · rw [if_neg hf, gv_filter f k c, ← e, if_neg hf, if_neg hf]
    · by_cases hf : f p.1 = true
      · rw [if_pos hf, gv_cons, if_neg e, gv_filter f k c, gv_cons, if_neg e]
      · rw [if_neg hf, gv_filter f k c, gv_cons, if_neg e]
end
def win (c : List (Int × Rat)) (lo hi : Int) : List Rat := (c.filter fun p => decide (lo < p.1) && decide (p.1 < hi)).map (·.2)
theorem win_perm {c c' : List (Int × Rat)} {lo hi : Int} (h : ND c) (h' : ND c') (e : ∀ k, lo < k → gv c k = gv c' k) : (win c lo hi).Perm (win c' lo hi) :=
  (perm_of (f := fun k => decide (lo < k) && decide (k < hi)) h h' fun k hk => e k (by simp at hk; exact hk.1)).map _
/-- a dict with numbers as keys against a table -/
inductive IT {α : Type} (R : V → α → Prop) : List (Key × V) → List (Int × α) → Prop
  | nil : IT R [] []
  | cons {k : Int} {v : V} {y : α} {l : List (Key × V)} {c : List (Int × α)} : R v y → IT R l c → IT R ((.inl k, v) :: l) ((k, y) :: c)
section
variable {α : Type} {R R' : V → α → Prop} {l : List (Key × V)} {c : List (Int × α)} {k : Int} {v : V} {y : α}
theorem IT.imp (f : ∀ v y, R v y → R' v y) (h : IT R l c) : IT R' l c := by
  induction h with
  | nil => exact .nil
  | cons a _ ih => exact .cons (f _ _ a) ih
theorem IT.len (h : IT R l c) : l.length = c.length := by
  induction h with
  | nil => rfl
  | cons a _ ih => simp [ih]
theorem IT.get (h : IT R l c) : ∀ {i : Nat} {k : Key} {x : V}, l[i]? = some (k, x) → ∃ n y, k = .inl n ∧ c[i]? = some (n, y) ∧ R x y := by
  induction h with
  | nil => intro i k x z; simp at z
  | @cons k' v' y' l c a _ ih =>
    intro i k x z
    cases i with
    | zero => cases z; exact ⟨k', y', rfl, rfl, a⟩
    | succ i => exact ih (i := i) (by simpa using z)
theorem IT.val (h : IT R l c) (k : Int) : (valV l (.inl k) = none ∧ gv c k = none) ∨ ∃ v y, valV l (.inl k) = some v ∧ gv c k = some y ∧ R v y := by
  induction h with
  | nil => exact .inl ⟨rfl, rfl⟩
  | @cons k' v y l c a _ ih =>
    rw [gv_cons]
    by_cases e : k' = k
    · subst e
      exact .inr ⟨v, y, valV_pos rfl, by rw [if_pos rfl], a⟩
    · rw [valV_neg (p := ((.inl k' : Key), v)) (fun z => e (Sum.inl.inj z)), if_neg e]
      exact ih
theorem IT.any (h : IT R l c) (k : Int) : (l.any fun p => decide (p.1 = .inl k)) = (c.any fun p => decide (p.1 = k)) := by
  rw [valV_any, gv_any]
  rcases h.val k with ⟨a, b⟩ | ⟨v, y, a, b, _⟩ <;> rw [a, b] <;> rfl
theorem IT.repl (h : IT R l c) (a : R v y) : IT R (l.map fun kv => if kv.1 = .inl k then (kv.1, v) else kv) (c.map fun p => if p.1 = k then (p.1, y) else p) := by
  induction h with
  | nil => exact .nil
  | @cons k' v' y' l c b _ ih =>
    rw [List.map_cons, List.map_cons]
    by_cases e : k' = k
    · subst e
      rw [if_pos rfl, if_pos rfl]; exact .cons a ih
    · rw [if_neg (fun z => e (Sum.inl.inj z)), if_neg e]; exact .cons b ih
theorem IT.app {l2 : List (Key × V)} {c2 : List (Int × α)} (h : IT R l c) (g : IT R l2 c2) : IT R (l ++ l2) (c ++ c2) := by
  induction h with
  | nil => exact g
  | cons b _ ih => exact .cons b ih
theorem IT.put (h : IT R l c) (a : R v y) : IT R (putK l (.inl k) v) (gp c k y) := by
  unfold putK gp
  rw [h.any k]
  split
  · exact h.repl a
  · exact h.app (.cons a .nil)
end
end Yk

set_option maxHeartbeats 4000000
namespace Yk
open PySem PySem.Spec PyProof.Rows L2

local macro_rules | `(tactic| walk_at "st") => `(tactic| first
  | with_reducible refine' r_tAt ?_
  | ((with_reducible refine' r_fld ?h1 ?h2 ?h3); (case h1 => first | assumption | exact upd_same); (case h2 => first | walk_at "lk" | rfl))
  | with_reducible refine' r_sAt ?_
  | ((with_reducible refine' r_putU ?h1 ?h2); (case h1 => (repeat refine putF_lt ?_); decide))
  | ((with_reducible refine' r_put ?h1 ?h2 ?h3); (case h1 => first | assumption | exact upd_same); (case h2 => (repeat refine putF_lt ?_); decide))
  | with_reducible refine' r_tMt ?_
  | ((with_reducible refine' r_met ?h1 ?h2 ?h3); (case h1 => first | assumption | exact upd_same); (case h2 => first | walk_at "lk" | rfl))
  | with_reducible refine' r_tCr ?_
  | with_reducible refine' r_tCrK ?_
  | with_reducible refine' r_chain ?_)
local macro_rules | `(tactic| walk_at "st") => `(tactic| first
  | with_reducible refine' r_dget ?_
  | with_reducible refine' r_dc ?_
  | with_reducible refine' r_iVals ?_
  | with_reducible refine' r_dnotin ?_
  | with_reducible refine' r_din ?_
  | with_reducible refine' r_iItems ?_
  | with_reducible refine' r_iKeysT ?_
  | with_reducible refine' r_tget1 ?_
  | with_reducible refine' r_tget2 ?_
  | with_reducible refine' r_dput ?_
  | with_reducible refine' r_tPr ?_
  | ((with_reducible refine' r_prp2 ?h1 ?h2); (case h1 => first | assumption | exact upd_same))
  | with_reducible refine' r_par3 ?_
  | ((with_reducible refine' r_dnT ?_); (intro np hnp))
  | ((with_reducible refine' r_dnK ?_); (intro np hnp)))
/-! What a hop remembers. -/
def HopFs (way age : Int) (d : Addr) : List (Str × V) := [("_way", .int way), ("_age", .int age), ("_sent", .ref d)]
theorem lk_Hop_way {way age : Int} {d : Addr} : List.lookup ("_way" : Str) (HopFs way age d) = some (V.int way) := by kernel_rfl
theorem lk_Hop_age {way age : Int} {d : Addr} : List.lookup ("_age" : Str) (HopFs way age d) = some (V.int age) := by kernel_rfl
theorem lk_Hop_sent {way age : Int} {d : Addr} : List.lookup ("_sent" : Str) (HopFs way age d) = some (V.ref d) := by kernel_rfl
theorem lk_Hop_no {way age : Int} {d : Addr} {m : Str} (h : (m == ("_way" : Str)) = false) (h2 : (m == ("_age" : Str)) = false) (h3 : (m == ("_sent" : Str)) = false) : List.lookup m (HopFs way age d) = none := by
  unfold HopFs
  rw [List.lookup_cons, h, List.lookup_cons, h2, List.lookup_cons, h3]
  rfl
theorem put_Hop {way age : Int} {d D : Addr} : putF "_sent" (V.ref D) (HopFs way age d) = HopFs way age D := by kernel_rfl
local macro_rules | `(tactic| walk_at "lk") => `(tactic| first | with_reducible exact lk_Hop_way | with_reducible exact lk_Hop_age | with_reducible exact lk_Hop_sent | exact lk_Hop_no (by decide +kernel) (by decide +kernel) (by decide +kernel))
/-- the hop at a, what it remembers; its dict is none of S -/
def HopAt (cH : Addr) (K : PySem.W.Frag) (H : Hp) (S : List Addr) (a : Addr) (way age : Int) (c : List (Int × Rat)) : Prop :=
  ∃ dx d l, H a = some (.ins cH dx (HopFs way age d)) ∧ H d = some (.dK l) ∧ IT (Am K H) l c ∧ d ∉ S
/-- what may change beside the hop at a -/
def Off (H : Hp) (S : List Addr) (a x : Addr) : Prop := x ≠ a ∧ (∃ o, H x = some o ∧ (∀ xs, o ≠ .tup xs) ∧ ∀ u xs, o ≠ .frz u (.tup xs)) ∧ (x ∈ S ∨ ∀ l, H x ≠ some (.dK l))
section
variable {cH : Addr} {K : PySem.W.Frag} {H H1 : Hp} {S T : List Addr} {a : Addr} {way age : Int} {c : List (Int × Rat)}
theorem HopAt.f (h : HopAt cH K H S a way age c) (e : Ext T H H1) (hT : ∀ x ∈ T, Off H S a x) : HopAt cH K H1 S a way age c := by
  obtain ⟨dx, d, l, h1, h2, h3, h4⟩ := h
  exact ⟨dx, d, l, e _ _ h1 fun z => (hT a z).1 rfl, e _ _ h2 fun z => (hT d z).2.2.elim (fun q => h4 q) fun q => q _ h2, h3.imp fun _ _ => Am.f e fun x hx => (hT x hx).2.1, h4⟩
theorem HopAt.x0 (h : HopAt cH K H S a way age c) (e : Ext [] H H1) : HopAt cH K H1 S a way age c := h.f e fun _ z => nomatch z
theorem off_lst {x : Addr} {l : List V} (h : H x = some (.lst l)) (ha : HopAt cH K H S a way age c) : Off H S a x := by
  obtain ⟨dx, d, l', h1, h2, h3, h4⟩ := ha
  exact ⟨fun z => (by rw [z, h1] at h; cases h), ⟨_, h, (fun _ z => nomatch z), fun _ _ z => nomatch z⟩, .inr fun l z => by rw [h] at z; cases z⟩
theorem HopAt.b {b : Bag} (h : HopAt cH K H S a way age c) (hb : BagAt K H b) (e : Ext [b.a] H H1) : HopAt cH K H1 S a way age c := by
  obtain ⟨l, hl⟩ := hb.lst
  exact h.f e fun x hx => by rw [List.mem_singleton.mp hx]; exact off_lst hl h
end
section
variable {P : Program} {w : World} {K : PySem.W.Frag} {mg : Str → Option Value} {base : Heap} {f : Addr} {fd : FuncData}
def spHopInit (cH : Addr) : Sp := fun vs H Q _ => ∃ (a dx : Addr) (way age : Int), vs = [.ref a, .int way, .int age] ∧ H a = some (.ins cH dx []) ∧ ∀ d, H d = none → d ≠ a → Q .non (upd (upd H d (.dK [])) a (.ins cH dx (HopFs way age d)))
abbrev s_Hop___init__ : Stmt := inClass (top 16) 0
theorem c_Hop___init__ : FnScope ["self", "way", "age"] ["self", "way", "age"] (defScope s_Hop___init__) := ⟨rfl, rfl, rfl, by decide +kernel, rfl, by decide +kernel, by decide +kernel⟩
theorem f_Hop___init__ (F : FunD K "__init__" "Hop.__init__" (defArgs s_Hop___init__) (defBody s_Hop___init__) (defScope s_Hop___init__) [] [] f fd) {cH : Addr} (THop : Ct K mg "Hop" cH ["_way", "_age", "_sent"]) : FnOk P w K mg base CX0 1 f fd ["self", "way", "age"] (spHopInit cH) := by
  refine ok_meth F c_Hop___init__ (fun vs H Q E h => ?_) (fun cdv A outer s H vs Q E hr h => ?_)
  · obtain ⟨a, dx, way, age, rfl, _⟩ := h
    rfl
  · obtain ⟨a, dx, way, age, rfl, ha, k⟩ := h
    have nd := c_Hop___init__.nd
    refine ⟨_, (pss_cons (ps_at THop (by decide +kernel) (pv 0) (pv 1))
      (pss_cons (ps_at THop (by decide +kernel) (pv 0) (pv 2))
      (pss_one (ps_at THop (by decide +kernel) (pv 0) pe_dnewK)))), ?_⟩
    show (_ : TS) _ [some _, some _, some _] _
    try dsimp only [cxOf, Cx.nox]
    walk_at "run"
    rename_i d hd
    have hda : d ≠ a := fun z => by rw [z, upd_same] at hd; cases hd
    have hd0 : H d = none := by rw [upd_ne hda] at hd; exact hd
    have ha2 : upd (upd H a (.ins cH dx (putF "_age" (V.int age) (putF "_way" (V.int way) [])))) d (.dK []) a = some (.ins cH dx (putF "_age" (V.int age) (putF "_way" (V.int way) []))) := by rw [upd_ne hda.symm, upd_same]
    refine r_put ha2 (by (repeat refine putF_lt ?_); decide) ?_
    rw [upd_over hda]
    exact k d hd0 hda
def remembered (c : List (Int × Rat)) (way age tick : Int) (q : Rat) : List (Int × Rat) := gp (c.filter fun p => decide (tick - age - way ≤ p.1)) tick q
def spRemember (cH : Addr) (K : PySem.W.Frag) : Sp := fun vs H Q _ => ∃ (S : List Addr) (a : Addr) (way age : Int) (c : List (Int × Rat)) (tick : Int) (v : V) (q : Rat), vs = [.ref a, .int tick, v] ∧ HopAt cH K H S a way age c ∧ ND c ∧ c.length ≤ 1000 ∧ Am K H v q ∧ (∀ s ∈ S, H s ≠ none) ∧
  ∀ H', Ext [a] H H' → HopAt cH K H' S a way age (remembered c way age tick q) → Q .non H'
abbrev s_Hop_remember : Stmt := inClass (top 16) 1
theorem c_Hop_remember : FnScope ["self", "tick", "water", "oldest", "earlier", "sent"] ["self", "tick", "water"] (defScope s_Hop_remember) := ⟨rfl, rfl, rfl, by decide +kernel, rfl, by decide +kernel, by decide +kernel⟩
theorem f_Hop_remember (F : FunD K "remember" "Hop.remember" (defArgs s_Hop_remember) (defBody s_Hop_remember) (defScope s_Hop_remember) [] [] f fd) {cH : Addr} (THop : Ct K mg "Hop" cH ["_way", "_age", "_sent"]) : FnOk P w K mg base CX0 1 f fd ["self", "tick", "water"] (spRemember cH K) := by
  refine ok_meth F c_Hop_remember (fun vs H Q E h => ?_) (fun cdv A outer s H vs Q E hr h => ?_)
  · obtain ⟨S, a, way, age, c, tick, v, q, rfl, _⟩ := h
    rfl
  · obtain ⟨S, a, way, age, c, tick, v, q, rfl, ⟨dx, d, l, ha, hd, hl, hS⟩, nd1, h1000, hv, hS0, k⟩ := h
    have nd := c_Hop_remember.nd
    refine ⟨_, (pss_cons (ps_set (i := 3) nd rfl (by first | exact Or.inl rfl | exact Or.inr rfl) (pe_op op_sub (pe_op op_sub (pv 1) (pe_at THop (by decide +kernel) (pv 0))) (pe_at THop (by decide +kernel) (pv 0))))
      (pss_cons (ps_at THop (by decide +kernel) (pv 0) (pe_lock (pe_dc (own := [("earlier", 4), ("sent", 5)]) rfl nd (pi_items (pe_at THop (by decide +kernel) (pv 0))) (blkOk_by (N := ["self", "tick", "water", "oldest", "earlier", "sent"]) (sc := defScope s_Hop_remember) (by decide +kernel)) (fun _ _ _ _ _ => (pg_tup (n := 2) rfl (pgs_cons (pg_name (i := 4) nd rfl (Or.inl rfl)) (pgs_cons (pg_name (i := 5) nd rfl (Or.inl rfl)) pgs_nil)) : PG _ _ (gTup K 2 _))) (fun _ _ _ _ _ => (pts_one (pt_cmpR op_ge (pv 4) (pv 3) (nomark _)))) (fun _ _ _ _ _ => (pv 4)) (fun _ _ _ _ _ => (pv 5)))))
      (pss_one (ps_dput (hu_of hr) (pe_at THop (by decide +kernel) (pv 0)) (pv 1) (pv 2) (by rfl))))), ?_⟩
    show (_ : TS) _ [some _, some _, some _, none, none, none] _
    try dsimp only [cxOf, Cx.nox]
    have hda : d ≠ a := fun z => by rw [z, ha] at hd; cases hd
    walk_at "go"
    refine r_lockE hd fun od => ?_
    have E0 : Ext [d] H (upd H d (.frz od (.dK l))) := Ext.refl.at_ List.mem_cons_self
    have ha1 : upd H d (.frz od (.dK l)) a = some (.ins cH dx (HopFs way age d)) := by rw [upd_ne hda.symm]; exact ha
    walk_at "go"
    refine ⟨d, od, l, rfl, upd_same, fun D hD => ?_⟩
    have hdD : d ≠ D := fun q => by rw [q, upd_same] at hD; cases hD
    have hD0 : H D = none := by rw [upd_ne hdD.symm] at hD; exact hD
    have hDa : D ≠ a := fun z => by rw [z, ha] at hD0; cases hD0
    refine r_dcI (kv := l) (fun i H1 => ∃ l2, H1 D = some (.dK l2) ∧ IT (Am K H) l2 ((c.take i).filter fun p => decide (tick - age - way ≤ p.1)) ∧ Ext [d] H H1 ∧ H1 d = some (.frz od (.dK l))) ⟨[], upd_same, .nil, E0.new hD, by rw [upd_ne hdD]; exact upd_same⟩ ?_ ?_ ?_
    · rintro i H1 _ ⟨_, _, _, _, p⟩
      exact p
    · rintro i ky x T' H1 hx ⟨l2, g1, g3, e1, g2⟩ hT
      obtain ⟨n, y, rfl, hn, hy⟩ := hl.get hx
      have hi := (List.getElem?_eq_some_iff.mp hn).1
      have f1 : upd H1 T' (.tup [kV (.inl n), x]) D = some (.dK l2) := by rw [upd_ne (ne_of_none g1 hT)]; exact g1
      have f2 : upd H1 T' (.tup [kV (.inl n), x]) d = some (.frz od (.dK l)) := by rw [upd_ne (ne_of_none g2 hT)]; exact g2
      have e3 : Ext [d] H (upd H1 T' (.tup [kV (.inl n), x])) := e1.trans (Ext.refl.new hT)
      have ht : SqT K (upd H1 T' (.tup [kV (.inl n), x])) T' [.int n, x] := tupS
      have hgv : gv ((c.take i).filter fun p => decide (tick - age - way ≤ p.1)) n = none := by
        rw [gv_filter (fun z => decide (tick - age - way ≤ z))]
        split
        · refine gv_none.mpr fun z => ?_
          have e5 : (c.map (·.1))[i]? = some n := by rw [List.getElem?_map, hn]; rfl
          rw [List.map_take] at z
          obtain ⟨j, hj, e6⟩ := List.mem_iff_getElem.mp z
          rw [List.length_take] at hj
          rw [List.getElem_take] at e6
          have e7 := (List.getElem?_eq_some_iff.mp e5)
          obtain ⟨e8, e9⟩ := e7
          exact absurd (List.getElem_inj nd1 |>.mp (e6.trans e9.symm)) (by omega)
        · rfl
      have htk : c.take (i + 1) = c.take i ++ [(n, y)] := by rw [List.take_add_one, hn]; rfl
      walk_at "go"
      refine ⟨rfl, ?_⟩
      walk_at "go"
      refine r_dec (fun hge => ?_) (fun hge => ?_)
      · walk_at "go"
        refine ⟨l2, .inl n, rfl, f1, Nat.lt_of_le_of_lt ?_ (by decide : 4000 < sizeLine), _, upd_same, ?_, e3.own hD0, by rw [upd_ne hdD]; exact f2⟩
        · rw [g3.len]
          refine Nat.le_trans (List.length_filter_le _ _) ?_
          rw [List.length_take]
          omega
        · rw [htk, List.filter_append, List.filter_cons_of_pos (by simpa using hge), List.filter_nil, ← gp_new y hgv]
          exact g3.put hy
      · refine ⟨l2, f1, ?_, e3, f2⟩
        rw [htk, List.filter_append, List.filter_cons_of_neg (by simpa using hge), List.filter_nil, List.append_nil]
        exact g3
    · rintro H1 ⟨l2, g1, g3, e1, g2⟩
      rw [hl.len, List.take_length] at g3
      refine ⟨g2, ?_⟩
      have e2 := ext_unlock hd e1
      have ha2 := e2 _ _ ha fun z => nomatch z
      have hD2 : upd H1 d (.dK l) D = some (.dK l2) := by rw [upd_ne hdD.symm]; exact g1
      generalize upd H1 d (.dK l) = H2 at *
      have hD3 : upd H2 a (.ins cH dx (putF "_sent" (V.ref D) (HopFs way age d))) D = some (.dK l2) := by rw [upd_ne hDa]; exact hD2
      rw [put_Hop] at hD3
      walk_at "go"
      refine r_put ha2 (show 3 < 1000 by decide) ?_
      rw [put_Hop]
      walk_at "go"
      walk_at "go"
      have e4 : Ext [a] H (upd H2 a (.ins cH dx (HopFs way age D))) := (e2.of0).trans (Ext.refl.at_ List.mem_cons_self)
      have hl2 : l2.length < sizeLine := by
        refine Nat.lt_of_le_of_lt ?_ (by decide : 4000 < sizeLine)
        rw [g3.len]
        exact Nat.le_trans (List.length_filter_le _ _) (by omega)
      refine ⟨D, _, rfl, DPut.k (k := .inl tick) hD3 hl2, ?_⟩
      walk_at "go"
      have e5 : Ext [a] H (upd (upd H2 a (.ins cH dx (HopFs way age D))) D (.dK (putK l2 (.inl tick) v))) := e4.own hD0
      have nt : NoTup H [a] := fun b hb => by rw [List.mem_singleton.mp hb]; exact ⟨_, ha, (fun _ z => nomatch z), fun _ _ z => nomatch z⟩
      refine k _ e5 ⟨dx, D, _, ?_, upd_same, (g3.put hv).imp fun _ _ z => z.f e5 nt, fun z => hS0 D z hD0⟩
      rw [upd_ne hDa.symm]
      exact upd_same
def spSentAfter (cH : Addr) (K : PySem.W.Frag) : Sp := fun vs H Q _ => ∃ (S : List Addr) (a : Addr) (way age : Int) (c : List (Int × Rat)) (lo hi : Int) (X M : Nat), vs = [.ref a, .int lo, .int hi] ∧ HopAt cH K H S a way age c ∧ (∀ p ∈ c, In X M p.2) ∧ 0 < X ∧ X ≤ 2 ^ 400 ∧ c.length ≤ 1000 ∧ c.length * M ≤ 2 ^ 400 ∧ RetAm K H Q (sumQ (win c lo hi))
theorem win_take {c : List (Int × Rat)} {lo hi n : Int} {y : Rat} {i : Nat} (h : c[i]? = some (n, y)) : win (c.take (i + 1)) lo hi = win (c.take i) lo hi ++ if lo < n ∧ n < hi then [y] else [] := by
  unfold win
  rw [List.take_add_one, h, List.filter_append, List.map_append]
  congr 1
  show (List.filter _ [(n, y)]).map _ = _
  rw [List.filter_cons]
  by_cases e : lo < n ∧ n < hi
  · rw [if_pos e, if_pos (by simpa using e)]; rfl
  · rw [if_neg e, if_neg (by simpa using e)]; rfl
theorem win_mem {c : List (Int × Rat)} {lo hi : Int} {q : Rat} (h : q ∈ win c lo hi) : ∃ p ∈ c, p.2 = q := by
  obtain ⟨p, hp, e⟩ := List.mem_map.mp h
  exact ⟨p, (List.mem_filter.mp hp).1, e⟩
theorem win_len {c : List (Int × Rat)} {lo hi : Int} : (win c lo hi).length ≤ c.length := by
  unfold win
  rw [List.length_map]
  exact List.length_filter_le _ _
abbrev s_Hop_sent_after : Stmt := inClass (top 16) 2
theorem c_Hop_sent_after : FnScope ["self", "tick", "now", "found", "earlier", "sent"] ["self", "tick", "now"] (defScope s_Hop_sent_after) := ⟨rfl, rfl, rfl, by decide +kernel, rfl, by decide +kernel, by decide +kernel⟩
theorem f_Hop_sent_after (F : FunD K "sent_after" "Hop.sent_after" (defArgs s_Hop_sent_after) (defBody s_Hop_sent_after) (defScope s_Hop_sent_after) [] [] f fd) {cH : Addr} (THop : Ct K mg "Hop" cH ["_way", "_age", "_sent"]) (Gplus : Fn P w K mg base 2 "plus" (spPlusI K)) : FnOk P w K mg base CX0 3 f fd ["self", "tick", "now"] (spSentAfter cH K) := by
  refine ok_meth F c_Hop_sent_after (fun vs H Q E h => ?_) (fun cdv A outer s H vs Q E hr h => ?_)
  · obtain ⟨S, a, way, age, c, lo, hi, X, M, rfl, _⟩ := h
    rfl
  · obtain ⟨S, a, way, age, c, lo, hi, X, M, rfl, ⟨dx, d, l, ha, hd, hl, hS⟩, hz, X0, X4, h1000, hlen, k⟩ := h
    have nd := c_Hop_sent_after.nd
    refine ⟨_, (pss_cons (ps_lock (ps_setLc (i := 3) (own := [("earlier", 4), ("sent", 5)])  rfl nd rfl rfl (sw_true rfl rfl rfl (by decide +kernel)) (pi_items (pe_at THop (by decide +kernel) (pv 0))) (blkOk_by (N := ["self", "tick", "now", "found", "earlier", "sent"]) (sc := defScope s_Hop_sent_after) (by decide +kernel)) (fun _ _ _ _ _ => (pg_tup (n := 2) rfl (pgs_cons (pg_name (i := 4) nd rfl (Or.inl rfl)) (pgs_cons (pg_name (i := 5) nd rfl (Or.inl rfl)) pgs_nil)) : PG _ _ (gTup K 2 _))) (fun _ _ _ _ _ => (pts_one (pt_chain op_lt op_lt (pv 1) (pv 4) (pv 2)))) (fun _ _ _ _ _ => (pv 5))))
      (pss_one (ps_ret (pe_fnS1 Gplus (hr.mono (by decide)) (pv 3))))), ?_⟩
    show (_ : TS) _ [some _, some _, some _, none, none, none] _
    try dsimp only [cxOf, Cx.nox]
    have hda : d ≠ a := fun z => by rw [z, ha] at hd; cases hd
    have hc : c.length ≤ 4000 := by omega
    walk_at "go"
    refine r_lock hd fun od => ?_
    have E0 : Ext [d] H (upd H d (.frz od (.dK l))) := Ext.refl.at_ List.mem_cons_self
    have ha1 : upd H d (.frz od (.dK l)) a = some (.ins cH dx (HopFs way age d)) := by rw [upd_ne hda.symm]; exact ha
    walk_at "go"
    refine ⟨d, od, l, rfl, upd_same, fun D hD => ?_⟩
    have hdD : d ≠ D := fun q => by rw [q, upd_same] at hD; cases hD
    have hD0 : H D = none := by rw [upd_ne hdD.symm] at hD; exact hD
    refine r_lcI (kv := l) (fun i H1 => ∃ acc, H1 D = some (.lst acc) ∧ Ams K H acc (win (c.take i) lo hi) ∧ Ext [d] H H1 ∧ H1 d = some (.frz od (.dK l))) ⟨[], upd_same, Ams.nil, E0.new hD, by rw [upd_ne hdD]; exact upd_same⟩ ?_ ?_ ?_
    · rintro i H1 _ ⟨_, _, _, _, p⟩
      exact p
    · rintro i ky x T' H1 hx ⟨acc, g1, g3, e1, g2⟩ hT
      obtain ⟨n, y, rfl, hn, hy⟩ := hl.get hx
      have f1 : upd H1 T' (.tup [kV (.inl n), x]) D = some (.lst acc) := by rw [upd_ne (ne_of_none g1 hT)]; exact g1
      have f2 : upd H1 T' (.tup [kV (.inl n), x]) d = some (.frz od (.dK l)) := by rw [upd_ne (ne_of_none g2 hT)]; exact g2
      have e3 : Ext [d] H (upd H1 T' (.tup [kV (.inl n), x])) := e1.trans (Ext.refl.new hT)
      have ht : SqT K (upd H1 T' (.tup [kV (.inl n), x])) T' [.int n, x] := tupS
      have lac : acc.length < sizeLine := by
        refine Nat.lt_of_le_of_lt ?_ (by decide : 4000 < sizeLine)
        rw [g3.1]
        refine Nat.le_trans win_len ?_
        rw [List.length_take]
        omega
      rw [win_take hn]
      walk_at "go"
      refine ⟨rfl, ?_⟩
      walk_at "go"
      refine r_dec (fun h1 => ?_) (fun h1 => ?_)
      · walk_at "go"
        refine r_dec (fun h2 => ?_) (fun h2 => ?_)
        · walk_at "go"
          refine ⟨acc, f1, lac, _, upd_same, ?_, e3.own hD0, by rw [upd_ne hdD]; exact f2⟩
          rw [if_pos ⟨h1, h2⟩]
          exact g3.app (Ams.cons hy Ams.nil)
        · refine ⟨acc, f1, ?_, e3, f2⟩
          rw [if_neg fun z => h2 z.2, List.append_nil]
          exact g3
      · walk_at "run"
        refine ⟨acc, f1, ?_, e3, f2⟩
        rw [if_neg fun z => h1 z.1, List.append_nil]
        exact g3
    · rintro H1 ⟨acc, g1, g3, e1, g2⟩
      rw [hl.len, List.take_length] at g3
      refine ⟨g2, ?_⟩
      have e2 := ext_unlock hd e1
      have hD2 : upd H1 d (.dK l) D = some (.lst acc) := by rw [upd_ne hdD.symm]; exact g1
      walk_at "go"
      refine ⟨D, acc, rfl, .inr (.inl (.inl hD2)), win c lo hi, X, M, g3.x0 e2, fun q hq => ?_, X0, X4, Nat.le_trans (Nat.mul_le_mul_right M win_len) hlen, Nat.le_trans win_len hc, fun v H' e a => k v H' (e2.trans e) a⟩
      obtain ⟨p, hp, rfl⟩ := win_mem hq
      exact hz p hp
def spRoom (cH : Addr) (K : PySem.W.Frag) : Sp := fun vs H Q _ => ∃ (S : List Addr) (a : Addr) (way age : Int) (c : List (Int × Rat)) (now made : Int) (X M : Nat) (v : V) (q : Rat), vs = [.ref a, .int now, .int made, v] ∧ HopAt cH K H S a way age c ∧ (∀ p ∈ c, In X M p.2) ∧ 0 < X ∧ X ≤ 2 ^ 400 ∧ c.length ≤ 1000 ∧ c.length * M ≤ 2 ^ 400 ∧ Am K H v q ∧ Sz 4000 q ∧ RetAm K H Q (restQ q (sumQ (win c (made - way) now)))
theorem win_inM {c : List (Int × Rat)} {lo hi : Int} {X M : Nat} (hz : ∀ p ∈ c, In X M p.2) : In X (c.length * M) (sumQ (win c lo hi)) :=
  (sum_in fun q hq => by obtain ⟨p, hp, rfl⟩ := win_mem hq; exact hz p hp).most (Nat.mul_le_mul_right M win_len)
def spHopCopy (cH : Addr) (K : PySem.W.Frag) : Sp := fun vs H Q _ => ∃ (S : List Addr) (a : Addr) (way age : Int) (c : List (Int × Rat)), vs = [.ref a] ∧ HopAt cH K H S a way age c ∧ (∀ s ∈ S, H s ≠ none) ∧ ∀ a' H', H a' = none → Ext [] H H' → HopAt cH K H' S a' way age c → Q (.ref a') H'
abbrev s_Hop_copy : Stmt := inClass (top 16) 4
theorem c_Hop_copy : FnScope ["self", "other"] ["self"] (defScope s_Hop_copy) := ⟨rfl, rfl, rfl, by decide +kernel, rfl, by decide +kernel, by decide +kernel⟩
theorem f_Hop_copy (F : FunD K "copy" "Hop.copy" (defArgs s_Hop_copy) (defBody s_Hop_copy) (defScope s_Hop_copy) [] [] f fd) {cH : Addr} (Tdict : mg "dict" = none) (THop : Ct K mg "Hop" cH ["_way", "_age", "_sent"]) (RHop : Cr P w K mg base 1 "Hop" cH (spHopInit cH)) : FnOk P w K mg base CX0 3 f fd ["self"] (spHopCopy cH K) := by
  refine ok_meth F c_Hop_copy (fun vs H Q E h => ?_) (fun cdv A outer s H vs Q E hr h => ?_)
  · obtain ⟨S, a, way, age, c, rfl, _⟩ := h
    rfl
  · obtain ⟨S, a, way, age, c, rfl, ⟨dx, d, l, ha, hd, hl, hS⟩, hS0, k⟩ := h
    have nd := c_Hop_copy.nd
    refine ⟨_, (pss_cons (ps_set (i := 1) nd rfl (by first | exact Or.inl rfl | exact Or.inr rfl) (pe_cr RHop (hr.mono (by decide)) (pa_cons (pe_at THop (by decide +kernel) (pv 0)) (pa_cons (pe_at THop (by decide +kernel) (pv 0)) pa_nil))))
      (pss_cons (ps_at THop (by decide +kernel) (pv 1) (pe_callTy call_dictD (by rfl) Tdict (by decide +kernel) (pa_cons (pe_at THop (by decide +kernel) (pv 0)) pa_nil)))
      (pss_one (ps_ret (pv 1))))), ?_⟩
    show (_ : TS) _ [some _, none] _
    try dsimp only [cxOf, Cx.nox]
    walk_at "go"
    intro x dx' hx hdx hne
    refine ⟨x, dx', way, age, rfl, upd_same, fun d2 hd2 hne2 => ⟨rfl, ?_⟩⟩
    have hdd : d2 ≠ dx' := fun z => by rw [z, upd_ne hne, upd_same] at hd2; cases hd2
    have hd20 : H d2 = none := by rw [upd_ne hne2, upd_ne hdd] at hd2; exact hd2
    have e1 : Ext [] H (upd (upd (upd (upd H dx' (.own x)) x (.ins cH dx' [])) d2 (.dK [])) x (.ins cH dx' (HopFs way age d2))) := (((Ext.refl.new hdx).own hx).own hd20).own hx
    have hx1 : upd (upd (upd (upd H dx' (.own x)) x (.ins cH dx' [])) d2 (.dK [])) x (.ins cH dx' (HopFs way age d2)) x = some (.ins cH dx' (HopFs way age d2)) := upd_same
    generalize upd (upd (upd (upd H dx' (.own x)) x (.ins cH dx' [])) d2 (.dK [])) x (.ins cH dx' (HopFs way age d2)) = H1 at *
    have hd1 := e1 _ _ hd fun z => nomatch z
    have ha1 := e1 _ _ ha fun z => nomatch z
    walk_at "go"
    refine ⟨d, l, rfl, .inl hd1, fun p hp => ?_⟩
    have hpx : p ≠ x := fun z => by rw [z, hx1] at hp; cases hp
    have hx2 : upd H1 p (.dK l) x = some (.ins cH dx' (HopFs way age d2)) := by rw [upd_ne hpx.symm]; exact hx1
    have e2 := (e1.new (o := .dK l) hp).own (o := .ins cH dx' (HopFs way age p)) hx
    walk_at "go"
    refine r_put hx2 (show 3 < 1000 by decide) ?_
    rw [put_Hop]
    walk_at "go"
    refine k x _ hx e2 ⟨dx', p, l, upd_same, by rw [upd_ne hpx]; exact upd_same, hl.imp fun _ _ z => z.x0 e2, fun z => hS0 p z (e1.free hp)⟩
end
end Yk

set_option maxHeartbeats 4000000
namespace Yk
open PySem PySem.Spec PyProof.Rows L2

local macro_rules | `(tactic| walk_at "st") => `(tactic| first
  | with_reducible refine' r_tAt ?_
  | ((with_reducible refine' r_fld ?h1 ?h2 ?h3); (case h1 => first | assumption | exact upd_same); (case h2 => first | walk_at "lk" | rfl))
  | with_reducible refine' r_sAt ?_
  | ((with_reducible refine' r_putU ?h1 ?h2); (case h1 => (repeat refine putF_lt ?_); decide))
  | ((with_reducible refine' r_put ?h1 ?h2 ?h3); (case h1 => first | assumption | exact upd_same); (case h2 => (repeat refine putF_lt ?_); decide))
  | with_reducible refine' r_tMt ?_
  | ((with_reducible refine' r_met ?h1 ?h2 ?h3); (case h1 => first | assumption | exact upd_same); (case h2 => first | walk_at "lk" | rfl))
  | with_reducible refine' r_tCr ?_
  | with_reducible refine' r_tCrK ?_
  | with_reducible refine' r_chain ?_)
local macro_rules | `(tactic| walk_at "st") => `(tactic| first
  | with_reducible refine' r_dget ?_
  | with_reducible refine' r_dc ?_
  | with_reducible refine' r_iVals ?_
  | with_reducible refine' r_dnotin ?_
  | with_reducible refine' r_din ?_
  | with_reducible refine' r_iItems ?_
  | with_reducible refine' r_iKeysT ?_
  | with_reducible refine' r_tget1 ?_
  | with_reducible refine' r_tget2 ?_
  | with_reducible refine' r_dput ?_
  | with_reducible refine' r_tPr ?_
  | ((with_reducible refine' r_prp2 ?h1 ?h2); (case h1 => first | assumption | exact upd_same))
  | with_reducible refine' r_par3 ?_
  | ((with_reducible refine' r_dnT ?_); (intro np hnp))
  | ((with_reducible refine' r_dnK ?_); (intro np hnp)))
/-! The law's own table beside a hop. -/
local macro_rules | `(tactic| walk_at "lk") => `(tactic| first | with_reducible exact lk_Hop_way | with_reducible exact lk_Hop_age | with_reducible exact lk_Hop_sent | exact lk_Hop_no (by decide +kernel) (by decide +kernel) (by decide +kernel))
def TabAt (K : PySem.W.Frag) (H : Hp) (t : Addr) (c : List (Int × Rat)) : Prop := ∃ l, H t = some (.dK l) ∧ IT (Am K H) l c
section
variable {cH : Addr} {K : PySem.W.Frag} {H H1 : Hp} {S T : List Addr} {t : Addr} {c : List (Int × Rat)}
theorem TabAt.f (h : TabAt K H t c) (e : Ext T H H1) (hT : ∀ x ∈ T, x ≠ t ∧ ∃ o, H x = some o ∧ (∀ xs, o ≠ .tup xs) ∧ ∀ u xs, o ≠ .frz u (.tup xs)) : TabAt K H1 t c := by
  obtain ⟨l, h1, h2⟩ := h
  exact ⟨l, e _ _ h1 fun z => (hT t z).1 rfl, h2.imp fun _ _ => Am.f e fun x hx => (hT x hx).2⟩
theorem TabAt.x0 (h : TabAt K H t c) (e : Ext [] H H1) : TabAt K H1 t c := h.f e fun _ z => nomatch z
theorem TabAt.b {b : Bag} (h : TabAt K H t c) (hb : BagAt K H b) (e : Ext [b.a] H H1) : TabAt K H1 t c := by
  obtain ⟨l, hl⟩ := hb.lst
  refine h.f e fun x hx => ?_
  rw [List.mem_singleton.mp hx]
  obtain ⟨l', h1, _⟩ := h
  exact ⟨fun z => (by rw [z, h1] at hl; cases hl), _, hl, (fun _ z => nomatch z), fun _ _ z => nomatch z⟩
theorem TabAt.put (h : TabAt K H t c) {k : Int} {v : V} {q : Rat} (hv : Am K H v q) : ∃ l, H t = some (.dK l) ∧ l.length = c.length ∧ TabAt K (upd H t (.dK (putK l (.inl k) v))) t (gp c k q) := by
  obtain ⟨l, h1, h2⟩ := h
  refine ⟨l, h1, h2.len, _, upd_same, (h2.put hv).imp fun _ _ => Am.f (S := [t]) (Ext.refl.at_ List.mem_cons_self) fun b hb => ?_⟩
  rw [List.mem_singleton.mp hb]
  exact ⟨_, h1, (fun _ z => nomatch z), fun _ _ z => nomatch z⟩
end
/-- a hop's table and the law's own -/
structure HopI (N way age : Int) (n : Nat) (c c' : List (Int × Rat)) : Prop where
  nd : ND c
  nd' : ND c'
  agr : ∀ k, N - age - way ≤ k → gv c k = gv c' k
  inn : ∀ p ∈ c, In 30 30 p.2
  inn' : ∀ p ∈ c', In 30 30 p.2
  len : c.length ≤ n
  len' : c'.length ≤ n
section
variable {N N' way age tick lo hi : Int} {n n' : Nat} {c c' : List (Int × Rat)} {q : Rat}
theorem HopI.win (h : HopI N way age n c c') (e : N - age - way ≤ lo + 1) : sumQ (Yk.win c lo hi) = sumQ (Yk.win c' lo hi) := sumQ_perm (win_perm h.nd h.nd' fun k hk => h.agr k (by omega))
theorem HopI.late (h : HopI N way age n c c') (e : N ≤ N') (e2 : n ≤ n') : HopI N' way age n' c c' := ⟨h.nd, h.nd', fun k hk => h.agr k (by omega), h.inn, h.inn', Nat.le_trans h.len e2, Nat.le_trans h.len' e2⟩
theorem HopI.step (h : HopI N way age n c c') (ht : tick ≤ N) (hq : In 30 30 q) : HopI N way age (n + 1) (remembered c way age tick q) (gp c' tick q) := by
  have lf : (c.filter fun p => decide (tick - age - way ≤ p.1)).length ≤ c.length := List.length_filter_le _ _
  have l1 := h.len
  have l2 := h.len'
  refine ⟨nd_gp (nd_filter h.nd _) _ _, nd_gp h.nd' _ _, fun k hk => ?_, fun p hp => ?_, fun p hp => ?_, ?_, ?_⟩
  · unfold remembered
    rw [gv_gp, gv_gp]
    by_cases e : k = tick
    · rw [if_pos e, if_pos e]
    · rw [if_neg e, if_neg e, gv_filter (fun z => decide (tick - age - way ≤ z)), if_pos (by simp; omega), h.agr k hk]
  · rcases gp_mem hp with e | e
    · rw [e]; exact hq
    · exact h.inn p (List.mem_filter.mp e).1
  · rcases gp_mem hp with e | e
    · rw [e]; exact hq
    · exact h.inn' p e
  · have := gp_len (c.filter fun p => decide (tick - age - way ≤ p.1)) tick q
    unfold remembered
    omega
  · have := gp_len c' tick q
    omega
theorem HopI.lk (h : HopI N way age n c c') (hn : n ≤ 60) : c.length ≤ 1000 := by have := h.len; omega
theorem HopI.l4 (h : HopI N way age n c c') (hn : n ≤ 60) : c.length * 30 ≤ 2 ^ 400 := Nat.le_trans (by have := h.len; omega : c.length * 30 ≤ 1800) (by decide +kernel)
theorem win_in (h : HopI N way age n c c') (hn : n ≤ 60) : In 30 1800 (sumQ (Yk.win c' lo hi)) := by
  refine (sum_in (X := 30) (M := 30) fun q hq => ?_).most ?_
  · obtain ⟨p, hp, rfl⟩ := win_mem hq
    exact h.inn' p hp
  · have h1 := win_len (c := c') (lo := lo) (hi := hi)
    have h2 := h.len'
    omega
end
theorem twelfth : (⟨1, 12, by decide, by decide⟩ : Rat) = mkRat ((1 : Nat) : Int) 12 := by decide +kernel
section
variable {P : Program} {w : World} {K : PySem.W.Frag} {mg : Str → Option Value} {base : Heap} {f : Addr} {fd : FuncData}
def spTaken (K : PySem.W.Frag) : Sp := fun vs H Q _ => ∃ (t : Addr) (c : List (Int × Rat)) (way now made : Int) (X M : Nat), vs = [.ref t, .int way, .int now, .int made] ∧ TabAt K H t c ∧ ND c ∧ (∀ p ∈ c, In X M p.2) ∧ 0 < X ∧ X ≤ 2 ^ 400 ∧ c.length ≤ 1000 ∧ c.length * M ≤ 2 ^ 400 ∧ RetAm K H Q (sumQ (win c (made - way) now))
theorem off_dk {cH : Addr} {S : List Addr} {a x : Addr} {way age : Int} {c : List (Int × Rat)} {l : List (Key × V)} {H : Hp} (h : H x = some (.dK l)) (hS : x ∈ S) (ha : HopAt cH K H S a way age c) : Off H S a x := by
  obtain ⟨dx, d, l', h1, h2, h3, h4⟩ := ha
  exact ⟨fun z => (by rw [z, h1] at h; cases h), ⟨_, h, (fun _ z => nomatch z), fun _ _ z => nomatch z⟩, .inl hS⟩
def spRooms (cH : Addr) (K : PySem.W.Frag) : Sp := fun vs H Q _ => ∃ (b : Bag) (S : List Addr) (a t : Addr) (way age now N : Int) (n : Nat) (c c' : List (Int × Rat)), vs = [.ref b.a, .ref a, .ref t, .int way, .int age, .int now] ∧ BagAt K H b ∧ HopAt cH K H S a way age c ∧ TabAt K H t c' ∧ HopI N way age n c c' ∧ n ≤ 60 ∧ N ≤ now ∧ 1 ≤ age ∧ age ≤ 12 ∧ ∀ H', BagAt K H' b → Ext [b.a] H H' → Q (.bl true) H'
def spLived (cH : Addr) (K : PySem.W.Frag) : Sp := fun vs H Q _ => ∃ (b : Bag) (S : List Addr) (a t : Addr) (way age now N : Int) (n : Nat) (c c' : List (Int × Rat)), vs = [.ref b.a, .ref a, .ref t, .int way, .int age, .int now] ∧ BagAt K H b ∧ HopAt cH K H S a way age c ∧ TabAt K H t c' ∧ HopI N way age n c c' ∧ n + 1 ≤ 60 ∧ N ≤ now ∧ 1 ≤ age ∧ age ≤ 12 ∧ t ∈ S ∧ (∀ s ∈ S, H s ≠ none) ∧ ∀ H' c1 c1', BagAt K H' b → HopAt cH K H' S a way age c1 → TabAt K H' t c1' → HopI now way age (n + 1) c1 c1' → Ext [b.a, a, t] H H' → Q (.bl true) H'
end
end Yk

set_option maxHeartbeats 4000000
namespace Yk
open PySem PySem.Spec PyProof.Rows L2

local macro_rules | `(tactic| walk_at "st") => `(tactic| first
  | with_reducible refine' r_tAt ?_
  | ((with_reducible refine' r_fld ?h1 ?h2 ?h3); (case h1 => first | assumption | exact upd_same); (case h2 => first | walk_at "lk" | rfl))
  | with_reducible refine' r_sAt ?_
  | ((with_reducible refine' r_putU ?h1 ?h2); (case h1 => (repeat refine putF_lt ?_); decide))
  | ((with_reducible refine' r_put ?h1 ?h2 ?h3); (case h1 => first | assumption | exact upd_same); (case h2 => (repeat refine putF_lt ?_); decide))
  | with_reducible refine' r_tMt ?_
  | ((with_reducible refine' r_met ?h1 ?h2 ?h3); (case h1 => first | assumption | exact upd_same); (case h2 => first | walk_at "lk" | rfl))
  | with_reducible refine' r_tCr ?_
  | with_reducible refine' r_tCrK ?_
  | with_reducible refine' r_chain ?_)
local macro_rules | `(tactic| walk_at "st") => `(tactic| first
  | with_reducible refine' r_dget ?_
  | with_reducible refine' r_dc ?_
  | with_reducible refine' r_iVals ?_
  | with_reducible refine' r_dnotin ?_
  | with_reducible refine' r_din ?_
  | with_reducible refine' r_iItems ?_
  | with_reducible refine' r_iKeysT ?_
  | with_reducible refine' r_tget1 ?_
  | with_reducible refine' r_tget2 ?_
  | with_reducible refine' r_dput ?_
  | with_reducible refine' r_tPr ?_
  | ((with_reducible refine' r_prp2 ?h1 ?h2); (case h1 => first | assumption | exact upd_same))
  | with_reducible refine' r_par3 ?_
  | ((with_reducible refine' r_dnT ?_); (intro np hnp))
  | ((with_reducible refine' r_dnK ?_); (intro np hnp)))
/-! A buffer. -/
def BufFs (s q m : V) : List (Str × V) := [("size", s), ("_water", q), ("_most", m)]
theorem lk_Buf_size {s q m : V} : List.lookup ("size" : Str) (BufFs s q m) = some s := by kernel_rfl
theorem lk_Buf_water {s q m : V} : List.lookup ("_water" : Str) (BufFs s q m) = some q := by kernel_rfl
theorem lk_Buf_most {s q m : V} : List.lookup ("_most" : Str) (BufFs s q m) = some m := by kernel_rfl
theorem lk_Buf_no {s q m : V} {x : Str} (h : (x == ("size" : Str)) = false) (h2 : (x == ("_water" : Str)) = false) (h3 : (x == ("_most" : Str)) = false) : List.lookup x (BufFs s q m) = none := by
  unfold BufFs
  rw [List.lookup_cons, h, List.lookup_cons, h2, List.lookup_cons, h3]
  rfl
theorem put_Buf_water {s q m v : V} : putF "_water" v (BufFs s q m) = BufFs s v m := by kernel_rfl
theorem put_Buf_most {s q m v : V} : putF "_most" v (BufFs s q m) = BufFs s q v := by kernel_rfl
local macro_rules | `(tactic| walk_at "lk") => `(tactic| first | with_reducible exact lk_Buf_size | with_reducible exact lk_Buf_water | with_reducible exact lk_Buf_most | exact lk_Buf_no (by decide +kernel) (by decide +kernel) (by decide +kernel))
/-- the buffer at a: its size, what it holds, what it held at most -/
def BufAt (cB : Addr) (K : PySem.W.Frag) (H : Hp) (a : Addr) (s q m : Rat) : Prop := ∃ dx vs vq vm, H a = some (.ins cB dx (BufFs vs vq vm)) ∧ Am K H vs s ∧ Am K H vq q ∧ Am K H vm m
section
variable {cB : Addr} {K : PySem.W.Frag} {H H1 : Hp} {T : List Addr} {a : Addr} {s q m : Rat}
theorem BufAt.f (h : BufAt cB K H a s q m) (e : Ext T H H1) (ha : a ∉ T) (nt : NoTup H T) : BufAt cB K H1 a s q m := by
  obtain ⟨dx, vs, vq, vm, h1, h2, h3, h4⟩ := h
  exact ⟨dx, vs, vq, vm, e _ _ h1 ha, h2.f e nt, h3.f e nt, h4.f e nt⟩
theorem BufAt.x0 (h : BufAt cB K H a s q m) (e : Ext [] H H1) : BufAt cB K H1 a s q m := h.f e (by simp) fun _ z => nomatch z
theorem BufAt.b {b : Bag} (h : BufAt cB K H a s q m) (hb : BagAt K H b) (e : Ext [b.a] H H1) : BufAt cB K H1 a s q m := by
  obtain ⟨l, hl⟩ := hb.lst
  refine h.f e ?_ (no_lst hl)
  obtain ⟨dx, vs, vq, vm, h1, _⟩ := h
  intro z
  rw [List.mem_singleton.mp z, hl] at h1
  cases h1
theorem BufAt.ins (h : BufAt cB K H a s q m) : ∃ dx fs, H a = some (.ins cB dx fs) := by
  obtain ⟨dx, vs, vq, vm, h1, _⟩ := h
  exact ⟨_, _, h1⟩
end
section
variable {P : Program} {w : World} {K : PySem.W.Frag} {mg : Str → Option Value} {base : Heap} {f : Addr} {fd : FuncData}
def spBufInit (cB : Addr) (K : PySem.W.Frag) : Sp := fun vs H Q _ => ∃ (a dx : Addr) (v : V) (s : Rat), vs = [.ref a, v] ∧ H a = some (.ins cB dx []) ∧ Am K H v s ∧ ∀ H', Ext [a] H H' → BufAt cB K H' a s 0 0 → Q .non H'
abbrev s_Buffer___init__ : Stmt := inClass (top 14) 0
theorem c_Buffer___init__ : FnScope ["self", "size"] ["self", "size"] (defScope s_Buffer___init__) := ⟨rfl, rfl, rfl, by decide +kernel, rfl, by decide +kernel, by decide +kernel⟩
theorem f_Buffer___init__ (F : FunD K "__init__" "Buffer.__init__" (defArgs s_Buffer___init__) (defBody s_Buffer___init__) (defScope s_Buffer___init__) [] [] f fd) {cB : Addr} (TZ : ∃ z, mg "ZERO" = some (.ref z) ∧ ∀ H, SqT K H z [.int 0, .int 1]) (TBuffer : Ct K mg "Buffer" cB ["size", "_water", "_most"]) : FnOk P w K mg base CX0 1 f fd ["self", "size"] (spBufInit cB K) := by
  refine ok_meth F c_Buffer___init__ (fun vs H Q E h => ?_) (fun cdv A outer s H vs Q E hr h => ?_)
  · obtain ⟨a, dx, v, s, rfl, _⟩ := h
    rfl
  · obtain ⟨a, dx, v, s, rfl, ha, hv, k⟩ := h
    have nd := c_Buffer___init__.nd
    obtain ⟨z, mz, TZ⟩ := TZ
    refine ⟨_, (pss_cons (ps_at TBuffer (by decide +kernel) (pv 0) (pv 1))
      (pss_cons (ps_at TBuffer (by decide +kernel) (pv 0) (pe_glob (v := .ref z) rfl mz rfl))
      (pss_one (ps_at TBuffer (by decide +kernel) (pv 0) (pe_glob (v := .ref z) rfl mz rfl))))), ?_⟩
    show (_ : TS) _ [some _, some _] _
    try dsimp only [cxOf, Cx.nox]
    have az : ∀ H', Am K H' (.ref z) 0 := fun H' => ⟨z, rfl, TZ H'⟩
    walk_at "run"
    have e1 : Ext [a] H (upd H a (.ins cB dx (BufFs v (.ref z) (.ref z)))) := Ext.refl.at_ List.mem_cons_self
    exact k _ e1 ⟨dx, v, .ref z, .ref z, upd_same, hv.f e1 (no_ins ha).1, az _, az _⟩
def spBufHeld (cB : Addr) (K : PySem.W.Frag) : Sp := fun vs H Q _ => ∃ (a : Addr) (s q m : Rat), vs = [.ref a] ∧ BufAt cB K H a s q m ∧ ∀ v, Am K H v q → Q v H
abbrev s_Buffer_held : Stmt := inClass (top 14) 1
theorem c_Buffer_held : FnScope ["self"] ["self"] (defScope s_Buffer_held) := ⟨rfl, rfl, rfl, by decide +kernel, rfl, by decide +kernel, by decide +kernel⟩
theorem f_Buffer_held (F : FunD K "held" "Buffer.held" (defArgs s_Buffer_held) (defBody s_Buffer_held) (defScope s_Buffer_held) [] [] f fd) {cB : Addr} (TBuffer : Ct K mg "Buffer" cB ["size", "_water", "_most"]) : FnOk P w K mg base CX0 1 f fd ["self"] (spBufHeld cB K) := by
  refine ok_meth F c_Buffer_held (fun vs H Q E h => ?_) (fun cdv A outer s H vs Q E hr h => ?_)
  · obtain ⟨a, s, q, m, rfl, _⟩ := h
    rfl
  · obtain ⟨a, s, q, m, rfl, ⟨dx, vs, vq, vm, ha, a1, a2, a3⟩, k⟩ := h
    have nd := c_Buffer_held.nd
    refine ⟨_, (pss_one (ps_ret (pe_at TBuffer (by decide +kernel) (pv 0)))), ?_⟩
    show (_ : TS) _ [some _] _
    try dsimp only [cxOf, Cx.nox]
    walk_at "run"
    exact k _ a2
def spBufFullest (cB : Addr) (K : PySem.W.Frag) : Sp := fun vs H Q _ => ∃ (a : Addr) (s q m : Rat), vs = [.ref a] ∧ BufAt cB K H a s q m ∧ ∀ v, Am K H v m → Q v H
abbrev s_Buffer_fullest : Stmt := inClass (top 14) 2
theorem c_Buffer_fullest : FnScope ["self"] ["self"] (defScope s_Buffer_fullest) := ⟨rfl, rfl, rfl, by decide +kernel, rfl, by decide +kernel, by decide +kernel⟩
theorem f_Buffer_fullest (F : FunD K "fullest" "Buffer.fullest" (defArgs s_Buffer_fullest) (defBody s_Buffer_fullest) (defScope s_Buffer_fullest) [] [] f fd) {cB : Addr} (TBuffer : Ct K mg "Buffer" cB ["size", "_water", "_most"]) : FnOk P w K mg base CX0 1 f fd ["self"] (spBufFullest cB K) := by
  refine ok_meth F c_Buffer_fullest (fun vs H Q E h => ?_) (fun cdv A outer s H vs Q E hr h => ?_)
  · obtain ⟨a, s, q, m, rfl, _⟩ := h
    rfl
  · obtain ⟨a, s, q, m, rfl, ⟨dx, vs, vq, vm, ha, a1, a2, a3⟩, k⟩ := h
    have nd := c_Buffer_fullest.nd
    refine ⟨_, (pss_one (ps_ret (pe_at TBuffer (by decide +kernel) (pv 0)))), ?_⟩
    show (_ : TS) _ [some _] _
    try dsimp only [cxOf, Cx.nox]
    walk_at "run"
    exact k _ a3
def spSetTo (cB : Addr) (K : PySem.W.Frag) : Sp := fun vs H Q _ => ∃ (a : Addr) (v : V) (s q m p : Rat), vs = [.ref a, v] ∧ BufAt cB K H a s q m ∧ Am K H v p ∧ Sz 4000 m ∧ Sz 4000 p ∧ ∀ H', Ext [a] H H' → BufAt cB K H' a s p (lmax m p) → Q .non H'
abbrev s_Buffer_set_to : Stmt := inClass (top 14) 5
theorem c_Buffer_set_to : FnScope ["self", "water"] ["self", "water"] (defScope s_Buffer_set_to) := ⟨rfl, rfl, rfl, by decide +kernel, rfl, by decide +kernel, by decide +kernel⟩
theorem f_Buffer_set_to (F : FunD K "set_to" "Buffer.set_to" (defArgs s_Buffer_set_to) (defBody s_Buffer_set_to) (defScope s_Buffer_set_to) [] [] f fd) {cB : Addr} (TBuffer : Ct K mg "Buffer" cB ["size", "_water", "_most"]) (Flargest : Fn P w K mg base 2 "largest" (spMin maxQ K)) : FnOk P w K mg base CX0 3 f fd ["self", "water"] (spSetTo cB K) := by
  refine ok_meth F c_Buffer_set_to (fun vs H Q E h => ?_) (fun cdv A outer s H vs Q E hr h => ?_)
  · obtain ⟨a, v, s, q, m, p, rfl, _⟩ := h
    rfl
  · obtain ⟨a, v, s, q, m, p, rfl, ⟨dx, vs, vq, vm, ha, a1, a2, a3⟩, av, zm, zp, k⟩ := h
    have nd := c_Buffer_set_to.nd
    refine ⟨_, (pss_cons (ps_at TBuffer (by decide +kernel) (pv 0) (pv 1))
      (pss_one (ps_at TBuffer (by decide +kernel) (pv 0) (pe_fn Flargest (hr.mono (by decide)) (pa_cons (pe_at TBuffer (by decide +kernel) (pv 0)) (pa_cons (pv 1) pa_nil)))))), ?_⟩
    show (_ : TS) _ [some _, some _] _
    try dsimp only [cxOf, Cx.nox]
    obtain ⟨nt, _⟩ := no_ins ha
    walk_at "go"
    refine r_put ha (show 3 < 1000 by decide) ?_
    rw [put_Buf_water]
    have e1 : Ext [a] H (upd H a (.ins cB dx (BufFs vs v vm))) := Ext.refl.at_ List.mem_cons_self
    have ha1 : upd H a (.ins cB dx (BufFs vs v vm)) a = some (.ins cB dx (BufFs vs v vm)) := upd_same
    have b1 := a1.f e1 nt
    have b3 := a3.f e1 nt
    have bv := av.f e1 nt
    generalize upd H a (.ins cB dx (BufFs vs v vm)) = H1 at *
    walk_at "go"
    refine k_max2 b3 bv zm zp fun u H2 e2 au => ?_
    have ha2 := e2 _ _ ha1 fun z => nomatch z
    walk_at "go"
    refine r_put ha2 (show 3 < 1000 by decide) ?_
    rw [put_Buf_most]
    have e3 : Ext [a] H2 (upd H2 a (.ins cB dx (BufFs vs v u))) := Ext.refl.at_ List.mem_cons_self
    obtain ⟨nt2, _⟩ := no_ins ha2
    exact k _ (e1.trans (e2.of0.trans e3)) ⟨dx, vs, v, u, upd_same, (b1.x0 e2).f e3 nt2, (bv.x0 e2).f e3 nt2, au.f e3 nt2⟩
def spTakeIn (cB : Addr) (K : PySem.W.Frag) : Sp := fun vs H Q _ => ∃ (a : Addr) (v : V) (s q m p : Rat), vs = [.ref a, v] ∧ BufAt cB K H a s q m ∧ Am K H v p ∧ Sz 1900 s ∧ Sz 1900 q ∧ Sz 1900 m ∧ Sz 1900 p ∧ ∀ u H', Ext [a] H H' → BufAt cB K H' a s (lmin (q + p) s) (lmax m (lmin (q + p) s)) → Am K H' u (q + p - lmin (q + p) s) → Q u H'
abbrev s_Buffer_take_in : Stmt := inClass (top 14) 3
theorem c_Buffer_take_in : FnScope ["self", "water", "wanted"] ["self", "water"] (defScope s_Buffer_take_in) := ⟨rfl, rfl, rfl, by decide +kernel, rfl, by decide +kernel, by decide +kernel⟩
theorem f_Buffer_take_in (F : FunD K "take_in" "Buffer.take_in" (defArgs s_Buffer_take_in) (defBody s_Buffer_take_in) (defScope s_Buffer_take_in) [] [] f fd) {cB : Addr} (TBuffer : Ct K mg "Buffer" cB ["size", "_water", "_most"]) (Fplus : Fn P w K mg base 2 "plus" (spPlus K)) (Fsmallest : Fn P w K mg base 2 "smallest" (spMin minQ K)) (Fminus : Fn P w K mg base 2 "minus" (spMinus K)) (MBuffer_set_to : Mt P w K mg base 3 cB "set_to" (spSetTo cB K)) : FnOk P w K mg base CX0 4 f fd ["self", "water"] (spTakeIn cB K) := by
  refine ok_meth F c_Buffer_take_in (fun vs H Q E h => ?_) (fun cdv A outer s H vs Q E hr h => ?_)
  · obtain ⟨a, v, s, q, m, p, rfl, _⟩ := h
    rfl
  · obtain ⟨a, v, s, q, m, p, rfl, hB, av, zs, zq, zm, zp, k⟩ := h
    have nd := c_Buffer_take_in.nd
    refine ⟨_, (pss_cons (ps_set (i := 2) nd rfl (by first | exact Or.inl rfl | exact Or.inr rfl) (pe_fn Fplus (hr.mono (by decide)) (pa_cons (pe_at TBuffer (by decide +kernel) (pv 0)) (pa_cons (pv 1) pa_nil))))
      (pss_cons (ps_expr (pe_mt MBuffer_set_to (hr.mono (by decide)) (pv 0) (pa_cons (pe_fn Fsmallest (hr.mono (by decide)) (pa_cons (pv 2) (pa_cons (pe_at TBuffer (by decide +kernel) (pv 0)) pa_nil))) pa_nil)))
      (pss_one (ps_ret (pe_fn Fminus (hr.mono (by decide)) (pa_cons (pv 2) (pa_cons (pe_at TBuffer (by decide +kernel) (pv 0)) pa_nil))))))), ?_⟩
    show (_ : TS) _ [some _, some _, none] _
    try dsimp only [cxOf, Cx.nox]
    obtain ⟨dx, vs, vq, vm, ha, a1, a2, a3⟩ := id hB
    obtain ⟨nt, _⟩ := no_ins ha
    have zw : Sz 4000 (q + p) := (sz_add zq zp).mono (by decide)
    have zl : Sz 4000 (lmin (q + p) s) := sz_min zw (zs.mono (by decide))
    walk_at "go"
    refine k_plus2 a2 av zq zp fun u H1 e1 au => ?_
    have ha1 := e1 _ _ ha fun z => nomatch z
    walk_at "go"
    refine k_min2 au (a1.x0 e1) zw (zs.mono (by decide)) fun u2 H2 e2 au2 => ?_
    have ha2 := e2 _ _ ha1 fun z => nomatch z
    walk_at "go"
    refine ⟨a, u2, s, q, m, _, rfl, (hB.x0 e1).x0 e2, au2, zm.mono (by decide), zl, fun H3 e3 hB3 => ?_⟩
    have au3 := (au.x0 e2).f e3 (no_ins ha2).1
    obtain ⟨dx3, vs3, vq3, vm3, ha3, b1, b2, b3⟩ := id hB3
    walk_at "go"
    refine k_minus au3 b2 (lmin_le1 _ _) zw zl fun u4 H4 e4 a4 => ?_
    exact k u4 H4 (e1.of0.trans (e2.of0.trans (e3.trans e4.of0))) (hB3.x0 e4) a4
def spGive (cB : Addr) (K : PySem.W.Frag) : Sp := fun vs H Q _ => ∃ (a : Addr) (v : V) (s q m p : Rat), vs = [.ref a, v] ∧ BufAt cB K H a s q m ∧ Am K H v p ∧ p ≤ q ∧ Sz 4000 q ∧ Sz 4000 p ∧ ∀ H', Ext [a] H H' → BufAt cB K H' a s (q - p) m → Q .non H'
abbrev s_Buffer_give : Stmt := inClass (top 14) 4
theorem c_Buffer_give : FnScope ["self", "water"] ["self", "water"] (defScope s_Buffer_give) := ⟨rfl, rfl, rfl, by decide +kernel, rfl, by decide +kernel, by decide +kernel⟩
theorem f_Buffer_give (F : FunD K "give" "Buffer.give" (defArgs s_Buffer_give) (defBody s_Buffer_give) (defScope s_Buffer_give) [] [] f fd) {cB : Addr} (TBuffer : Ct K mg "Buffer" cB ["size", "_water", "_most"]) (Fcompare : Fn P w K mg base 1 "compare" (spCompare K)) (Fminus : Fn P w K mg base 2 "minus" (spMinus K)) : FnOk P w K mg base CX0 3 f fd ["self", "water"] (spGive cB K) := by
  refine ok_meth F c_Buffer_give (fun vs H Q E h => ?_) (fun cdv A outer s H vs Q E hr h => ?_)
  · obtain ⟨a, v, s, q, m, p, rfl, _⟩ := h
    rfl
  · obtain ⟨a, v, s, q, m, p, rfl, hB, av, hle, zq, zp, k⟩ := h
    have nd := c_Buffer_give.nd
    refine ⟨_, (pss_cons (ps_if (pt_cmpR op_lt (pe_fn Fcompare (hr.mono (by decide)) (pa_cons (pe_at TBuffer (by decide +kernel) (pv 0)) (pa_cons (pv 1) pa_nil))) pe_int (nomark _))
        (pss_one ps_never)
        pss_nil)
      (pss_one (ps_at TBuffer (by decide +kernel) (pv 0) (pe_fn Fminus (hr.mono (by decide)) (pa_cons (pe_at TBuffer (by decide +kernel) (pv 0)) (pa_cons (pv 1) pa_nil)))))), ?_⟩
    show (_ : TS) _ [some _, some _] _
    try dsimp only [cxOf, Cx.nox]
    obtain ⟨dx, vs, vq, vm, ha, a1, a2, a3⟩ := id hB
    walk_at "go"
    refine k_cmp a2 av zq zp ?_
    walk_at "go"
    refine r_dec (fun hlt => absurd ((cmp_lt _ _).mp hlt) (Rat.not_lt.mpr hle)) (fun _ => ?_)
    walk_at "go"
    refine k_minus a2 av hle zq zp fun u H1 e1 au => ?_
    have ha1 := e1 _ _ ha fun z => nomatch z
    walk_at "go"
    refine r_put ha1 (show 3 < 1000 by decide) ?_
    rw [put_Buf_water]
    have e3 : Ext [a] H1 (upd H1 a (.ins cB dx (BufFs vs u vm))) := Ext.refl.at_ List.mem_cons_self
    obtain ⟨nt2, _⟩ := no_ins ha1
    exact k _ (e1.of0.trans e3) ⟨dx, vs, u, vm, upd_same, (a1.x0 e1).f e3 nt2, au.f e3 nt2, (a3.x0 e1).f e3 nt2⟩
end
end Yk

set_option maxHeartbeats 4000000
namespace Yk
open PySem PySem.Spec PyProof.Rows L2

local macro_rules | `(tactic| walk_at "st") => `(tactic| first
  | with_reducible refine' r_tAt ?_
  | ((with_reducible refine' r_fld ?h1 ?h2 ?h3); (case h1 => first | assumption | exact upd_same); (case h2 => first | walk_at "lk" | rfl))
  | with_reducible refine' r_sAt ?_
  | ((with_reducible refine' r_putU ?h1 ?h2); (case h1 => (repeat refine putF_lt ?_); decide))
  | ((with_reducible refine' r_put ?h1 ?h2 ?h3); (case h1 => first | assumption | exact upd_same); (case h2 => (repeat refine putF_lt ?_); decide))
  | with_reducible refine' r_tMt ?_
  | ((with_reducible refine' r_met ?h1 ?h2 ?h3); (case h1 => first | assumption | exact upd_same); (case h2 => first | walk_at "lk" | rfl))
  | with_reducible refine' r_tCr ?_
  | with_reducible refine' r_tCrK ?_
  | with_reducible refine' r_chain ?_)
local macro_rules | `(tactic| walk_at "st") => `(tactic| first
  | with_reducible refine' r_dget ?_
  | with_reducible refine' r_dc ?_
  | with_reducible refine' r_iVals ?_
  | with_reducible refine' r_dnotin ?_
  | with_reducible refine' r_din ?_
  | with_reducible refine' r_iItems ?_
  | with_reducible refine' r_iKeysT ?_
  | with_reducible refine' r_tget1 ?_
  | with_reducible refine' r_tget2 ?_
  | with_reducible refine' r_dput ?_
  | with_reducible refine' r_tPr ?_
  | ((with_reducible refine' r_prp2 ?h1 ?h2); (case h1 => first | assumption | exact upd_same))
  | with_reducible refine' r_par3 ?_
  | ((with_reducible refine' r_dnT ?_); (intro np hnp))
  | ((with_reducible refine' r_dnK ?_); (intro np hnp)))
/-! A wire. -/
def WireFs (way : Int) (d : Addr) : List (Str × V) := [("_way", .int way), ("_sent", .ref d)]
theorem lk_Wire_way {way : Int} {d : Addr} : List.lookup ("_way" : Str) (WireFs way d) = some (V.int way) := by kernel_rfl
theorem lk_Wire_sent {way : Int} {d : Addr} : List.lookup ("_sent" : Str) (WireFs way d) = some (V.ref d) := by kernel_rfl
theorem lk_Wire_no {way : Int} {d : Addr} {x : Str} (h : (x == ("_way" : Str)) = false) (h2 : (x == ("_sent" : Str)) = false) : List.lookup x (WireFs way d) = none := by
  unfold WireFs
  rw [List.lookup_cons, h, List.lookup_cons, h2]
  rfl
local macro_rules | `(tactic| walk_at "lk") => `(tactic| first | with_reducible exact lk_Wire_way | with_reducible exact lk_Wire_sent | exact lk_Wire_no (by decide +kernel) (by decide +kernel))
/-- the wire at a: its dict stands at d -/
def WireAt (cW : Addr) (K : PySem.W.Frag) (H : Hp) (d a : Addr) (way : Int) (c : List (Int × Rat)) : Prop := ∃ dx l, H a = some (.ins cW dx (WireFs way d)) ∧ H d = some (.dK l) ∧ IT (Am K H) l c
section
variable {cW : Addr} {K : PySem.W.Frag} {H H1 : Hp} {T : List Addr} {a d : Addr} {way : Int} {c : List (Int × Rat)}
theorem WireAt.f (h : WireAt cW K H d a way c) (e : Ext T H H1) (ha : a ∉ T) (hd : d ∉ T) (nt : NoTup H T) : WireAt cW K H1 d a way c := by
  obtain ⟨dx, l, h1, h2, h3⟩ := h
  exact ⟨dx, l, e _ _ h1 ha, e _ _ h2 hd, h3.imp fun _ _ => Am.f e nt⟩
theorem WireAt.x0 (h : WireAt cW K H d a way c) (e : Ext [] H H1) : WireAt cW K H1 d a way c := h.f e (by simp) (by simp) fun _ z => nomatch z
theorem WireAt.ins (h : WireAt cW K H d a way c) : ∃ dx, H a = some (.ins cW dx (WireFs way d)) := by
  obtain ⟨dx, l, h1, _⟩ := h
  exact ⟨_, h1⟩
theorem WireAt.dk (h : WireAt cW K H d a way c) : ∃ l, H d = some (.dK l) := by
  obtain ⟨dx, l, _, h1, _⟩ := h
  exact ⟨_, h1⟩
theorem WireAt.b {b : Bag} (h : WireAt cW K H d a way c) (hb : BagAt K H b) (e : Ext [b.a] H H1) : WireAt cW K H1 d a way c := by
  obtain ⟨l, hl⟩ := hb.lst
  obtain ⟨dx, h1⟩ := h.ins
  obtain ⟨l2, h2⟩ := h.dk
  refine h.f e ?_ ?_ (no_lst hl)
  · intro z; rw [List.mem_singleton.mp z, hl] at h1; cases h1
  · intro z; rw [List.mem_singleton.mp z, hl] at h2; cases h2
theorem IT.gd (h : IT (Am K H) l c) (k : Int) {z : V} (hz : Am K H z 0) : Am K H ((valV l (.inl k)).getD z) ((gv c k).getD 0) := by
  rcases h.val k with ⟨a, b⟩ | ⟨v, y, a, b, r⟩
  · rw [a, b]; exact hz
  · rw [a, b]; exact r
end
section
variable {P : Program} {w : World} {K : PySem.W.Frag} {mg : Str → Option Value} {base : Heap} {f : Addr} {fd : FuncData}
def spWireInit (cW : Addr) : Sp := fun vs H Q _ => ∃ (a dx : Addr) (way : Int), vs = [.ref a, .int way] ∧ H a = some (.ins cW dx []) ∧ ∀ d, H d = none → d ≠ a → Q .non (upd (upd H d (.dK [])) a (.ins cW dx (WireFs way d)))
abbrev s_Wire___init__ : Stmt := inClass (top 18) 0
theorem c_Wire___init__ : FnScope ["self", "way"] ["self", "way"] (defScope s_Wire___init__) := ⟨rfl, rfl, rfl, by decide +kernel, rfl, by decide +kernel, by decide +kernel⟩
theorem f_Wire___init__ (F : FunD K "__init__" "Wire.__init__" (defArgs s_Wire___init__) (defBody s_Wire___init__) (defScope s_Wire___init__) [] [] f fd) {cW : Addr} (TWire : Ct K mg "Wire" cW ["_way", "_sent"]) : FnOk P w K mg base CX0 1 f fd ["self", "way"] (spWireInit cW) := by
  refine ok_meth F c_Wire___init__ (fun vs H Q E h => ?_) (fun cdv A outer s H vs Q E hr h => ?_)
  · obtain ⟨a, dx, way, rfl, _⟩ := h
    rfl
  · obtain ⟨a, dx, way, rfl, ha, k⟩ := h
    have nd := c_Wire___init__.nd
    refine ⟨_, (pss_cons (ps_at TWire (by decide +kernel) (pv 0) (pv 1))
      (pss_one (ps_at TWire (by decide +kernel) (pv 0) pe_dnewK))), ?_⟩
    show (_ : TS) _ [some _, some _] _
    try dsimp only [cxOf, Cx.nox]
    walk_at "run"
    rename_i d hd
    have hda : d ≠ a := fun z => by rw [z, upd_same] at hd; cases hd
    have hd0 : H d = none := by rw [upd_ne hda] at hd; exact hd
    have ha2 : upd (upd H a (.ins cW dx (putF "_way" (V.int way) []))) d (.dK []) a = some (.ins cW dx (putF "_way" (V.int way) [])) := by rw [upd_ne hda.symm, upd_same]
    refine r_put ha2 (by (repeat refine putF_lt ?_); decide) ?_
    rw [upd_over hda]
    exact k d hd0 hda
def spPut (cW : Addr) (K : PySem.W.Frag) : Sp := fun vs H Q _ => ∃ (d a : Addr) (way : Int) (c : List (Int × Rat)) (tick : Int) (v : V) (q : Rat), vs = [.ref a, .int tick, v] ∧ WireAt cW K H d a way c ∧ c.length ≤ 1000 ∧ Am K H v q ∧ ∀ H', Ext [d] H H' → WireAt cW K H' d a way (gp c tick q) → Q .non H'
abbrev s_Wire_put : Stmt := inClass (top 18) 1
theorem c_Wire_put : FnScope ["self", "tick", "water"] ["self", "tick", "water"] (defScope s_Wire_put) := ⟨rfl, rfl, rfl, by decide +kernel, rfl, by decide +kernel, by decide +kernel⟩
theorem f_Wire_put (F : FunD K "put" "Wire.put" (defArgs s_Wire_put) (defBody s_Wire_put) (defScope s_Wire_put) [] [] f fd) {cW : Addr} (TWire : Ct K mg "Wire" cW ["_way", "_sent"]) : FnOk P w K mg base CX0 1 f fd ["self", "tick", "water"] (spPut cW K) := by
  refine ok_meth F c_Wire_put (fun vs H Q E h => ?_) (fun cdv A outer s H vs Q E hr h => ?_)
  · obtain ⟨d, a, way, c, tick, v, q, rfl, _⟩ := h
    rfl
  · obtain ⟨d, a, way, c, tick, v, q, rfl, ⟨dx, l, ha, hd, hl⟩, h1000, hv, k⟩ := h
    have nd := c_Wire_put.nd
    refine ⟨_, (pss_one (ps_dput (hu_of hr) (pe_at TWire (by decide +kernel) (pv 0)) (pv 1) (pv 2) (by rfl))), ?_⟩
    show (_ : TS) _ [some _, some _, some _] _
    try dsimp only [cxOf, Cx.nox]
    have lc := hl.len
    have hda : d ≠ a := fun z => by rw [z, ha] at hd; cases hd
    walk_at "run"
    refine ⟨d, _, rfl, DPut.k (k := .inl tick) hd (Nat.lt_of_le_of_lt (by omega : l.length ≤ 4000) (by decide)), ?_⟩
    have e1 : Ext [d] H (upd H d (.dK (putK l (.inl tick) v))) := Ext.refl.at_ List.mem_cons_self
    exact k _ e1 ⟨dx, _, by rw [upd_ne hda.symm]; exact ha, upd_same, (hl.put hv).imp fun _ _ z => z.f e1 (no_dk hd).1⟩
def spArriving (cW : Addr) (K : PySem.W.Frag) : Sp := fun vs H Q _ => ∃ (d a : Addr) (way : Int) (c : List (Int × Rat)) (tick : Int), vs = [.ref a, .int tick] ∧ WireAt cW K H d a way c ∧ ∀ v, Am K H v ((gv c (tick - way)).getD 0) → Q v H
abbrev s_Wire_arriving : Stmt := inClass (top 18) 2
theorem c_Wire_arriving : FnScope ["self", "tick"] ["self", "tick"] (defScope s_Wire_arriving) := ⟨rfl, rfl, rfl, by decide +kernel, rfl, by decide +kernel, by decide +kernel⟩
theorem f_Wire_arriving (F : FunD K "arriving" "Wire.arriving" (defArgs s_Wire_arriving) (defBody s_Wire_arriving) (defScope s_Wire_arriving) [] [] f fd) {cW : Addr} (TZ : ∃ z, mg "ZERO" = some (.ref z) ∧ ∀ H, SqT K H z [.int 0, .int 1]) (TWire : Ct K mg "Wire" cW ["_way", "_sent"]) : FnOk P w K mg base CX0 1 f fd ["self", "tick"] (spArriving cW K) := by
  refine ok_meth F c_Wire_arriving (fun vs H Q E h => ?_) (fun cdv A outer s H vs Q E hr h => ?_)
  · obtain ⟨d, a, way, c, tick, rfl, _⟩ := h
    rfl
  · obtain ⟨d, a, way, c, tick, rfl, ⟨dx, l, ha, hd, hl⟩, k⟩ := h
    have nd := c_Wire_arriving.nd
    obtain ⟨z, mz, TZ⟩ := TZ
    refine ⟨_, (pss_one (ps_ret (pe_dget2 (hu_of hr) (pe_at TWire (by decide +kernel) (pv 0)) (pe_op op_sub (pv 1) (pe_at TWire (by decide +kernel) (pv 0))) (pe_glob (v := .ref z) rfl mz rfl) ⟨by rfl, by rfl, by rfl, by rfl⟩))), ?_⟩
    show (_ : TS) _ [some _, some _] _
    try dsimp only [cxOf, Cx.nox]
    walk_at "run"
    refine ⟨d, rfl, .inl ⟨l, .inl hd⟩, ?_⟩
    walk_at "run"
    exact ⟨_, DGet.k (k := .inl (tick - way)) hd, k _ (hl.gd _ ⟨z, rfl, TZ _⟩)⟩
theorem r_iRng2 {σ : L2.St} {H : Hp} {ta : TA} {R : It → Hp → Prop} (h : ta σ H fun vs H1 => ∃ i j : Int, vs = [.int i, .int j] ∧ (-(2 ^ 62) ≤ i ∧ i < 2 ^ 62 ∧ -(2 ^ 62) ≤ j ∧ j < 2 ^ 62) ∧ R (Itr i (j - i).toNat) H1) : iRng2 ta σ H R := h
local macro_rules | `(tactic| walk_at "st") => `(tactic| first | with_reducible refine' r_iRng2 ?_)
/-- what was put at these ticks -/
def flowing (c : List (Int × Rat)) (lo : Int) (n : Nat) : List Rat := (List.range n).map fun (i : Nat) => (gv c (lo + (i : Int))).getD 0
theorem gd_in {X M : Nat} {c : List (Int × Rat)} (h : ∀ p ∈ c, In X M p.2) (k : Int) : In X M ((gv c k).getD 0) := by
  cases e : gv c k with
  | none => exact In.zero
  | some q =>
    unfold gv at e
    obtain ⟨p, hp, rfl⟩ := Option.map_eq_some_iff.mp e
    exact h p (List.mem_of_find?_eq_some hp)
def spUnderWay (cW : Addr) (K : PySem.W.Frag) : Sp := fun vs H Q _ => ∃ (d a : Addr) (way : Nat) (c : List (Int × Rat)) (tick : Int) (X M : Nat), vs = [.ref a, .int tick] ∧ WireAt cW K H d a (way : Int) c ∧ way ≤ 1000 ∧ -1000000 ≤ tick ∧ tick ≤ 1000000 ∧ (∀ p ∈ c, In X M p.2) ∧ 0 < X ∧ X ≤ 2 ^ 400 ∧ way * M ≤ 2 ^ 400 ∧ RetAm K H Q (sumQ (flowing c (tick - (way : Int) + 1) way))
abbrev s_Wire_under_way : Stmt := inClass (top 18) 3
theorem c_Wire_under_way : FnScope ["self", "tick", "found", "earlier"] ["self", "tick"] (defScope s_Wire_under_way) := ⟨rfl, rfl, rfl, by decide +kernel, rfl, by decide +kernel, by decide +kernel⟩
theorem f_Wire_under_way (F : FunD K "under_way" "Wire.under_way" (defArgs s_Wire_under_way) (defBody s_Wire_under_way) (defScope s_Wire_under_way) [] [] f fd) {cW : Addr} (T : Bt mg) (TZ : ∃ z, mg "ZERO" = some (.ref z) ∧ ∀ H, SqT K H z [.int 0, .int 1]) (TWire : Ct K mg "Wire" cW ["_way", "_sent"]) (Gplus : Fn P w K mg base 2 "plus" (spPlusI K)) : FnOk P w K mg base CX0 3 f fd ["self", "tick"] (spUnderWay cW K) := by
  refine ok_meth F c_Wire_under_way (fun vs H Q E h => ?_) (fun cdv A outer s H vs Q E hr h => ?_)
  · obtain ⟨d, a, way, c, tick, X, M, rfl, _⟩ := h
    rfl
  · obtain ⟨d, a, way, c, tick, X, M, rfl, hW, h1000, t0, t6, hin, X0, X4, hM, k⟩ := h
    have nd := c_Wire_under_way.nd
    obtain ⟨z, mz, TZ⟩ := TZ
    refine ⟨_, (pss_cons (ps_setLc (i := 2) (own := [("earlier", 3)]) (g := gName 3) rfl nd rfl rfl (sw_true rfl rfl rfl (by decide +kernel)) (pi_range2 rfl T.range (pa_cons (pe_op op_add (pe_op op_sub (pv 1) (pe_at TWire (by decide +kernel) (pv 0))) pe_int) (pa_cons (pe_op op_add (pv 1) pe_int) pa_nil))) (blkOk_by (N := ["self", "tick", "found", "earlier"]) (sc := defScope s_Wire_under_way) (by decide +kernel)) (fun _ _ _ _ _ => pg_name (i := 3) nd rfl (Or.inl rfl)) (fun _ _ _ _ _ => pts_nil) (fun _ _ _ _ _ => (pe_dget2 (hu_of hr) (pe_at TWire (by decide +kernel) (pv 0) : PE _ _ (tAt _ _ _)) (pv 3) (pe_glob (v := .ref z) rfl mz rfl) ⟨by rfl, by rfl, by rfl, by rfl⟩)))
      (pss_one (ps_ret (pe_fnS1 Gplus (hr.mono (by decide)) (pv 2))))), ?_⟩
    show (_ : TS) _ [some _, some _, none, none] _
    try dsimp only [cxOf, Cx.nox]
    obtain ⟨dx, l, ha, hd, hl⟩ := id hW
    walk_at "go"
    refine ⟨⟨by omega, by omega, by omega, by omega⟩, fun D hD => ?_⟩
    have ecnt : (tick + 1 - (tick - (way : Int) + 1)).toNat = way := by omega
    refine r_lcR (fun i H1 => ∃ acc, H1 D = some (.lst acc) ∧ Ams K H1 acc (flowing c (tick - (way : Int) + 1) i) ∧ Ext [] H H1) ⟨[], upd_same, Ams.nil, Ext.refl.new hD⟩ ?_ ?_
    · rintro i H1 hi ⟨acc, g1, g2, e1⟩
      rw [ecnt] at hi
      have ha1 := e1 _ _ ha fun z => nomatch z
      have hd1 := e1 _ _ hd fun z => nomatch z
      have lac : acc.length = i := by rw [g2.1]; unfold flowing; rw [List.length_map, List.length_range]
      walk_at "go"
      refine ⟨rfl, ?_⟩
      walk_at "go"
      refine ⟨d, rfl, .inl ⟨l, .inl hd1⟩, ?_⟩
      walk_at "go"
      refine ⟨_, DGet.k (k := .inl (tick - (way : Int) + 1 + (i : Int))) hd1, ?_⟩
      refine ⟨acc, g1, Nat.lt_of_le_of_lt (by omega : acc.length ≤ 4000) (by decide), _, upd_same, ?_, e1.own hD⟩
      have ez : flowing c (tick - (way : Int) + 1) (i + 1) = flowing c (tick - (way : Int) + 1) i ++ [(gv c (tick - (way : Int) + 1 + (i : Int))).getD 0] := by unfold flowing; rw [List.range_succ, List.map_append]; rfl
      rw [ez]
      exact (g2.w g1).app (Ams.cons ((Am.x0 e1 (hl.gd _ ⟨z, rfl, TZ _⟩)).w g1) Ams.nil)
    · rintro H1 ⟨acc, g1, g2, e1⟩
      rw [ecnt] at g2
      walk_at "go"
      refine ⟨D, acc, rfl, .inr (.inl (.inl g1)), _, X, M, g2, fun q hq => ?_, X0, X4, ?_, ?_, fun v H' e a => k v H' (e1.trans e) a⟩
      · obtain ⟨i, _, rfl⟩ := List.mem_map.mp hq
        exact gd_in hin _
      · unfold flowing
        rw [List.length_map, List.length_range]
        exact hM
      · unfold flowing
        rw [List.length_map, List.length_range]
        omega
end
end Yk

set_option maxHeartbeats 4000000
namespace Yk
open PySem PySem.Spec PyProof.Rows L2
/-! Sums over ticks. -/
/-- what stands at the keys from a on, below b -/
def W (c : List (Int × Rat)) (a b : Int) : Rat := sumQ (c.map fun p => if a ≤ p.1 ∧ p.1 < b then p.2 else 0)
def NN (c : List (Int × Rat)) : Prop := ∀ p ∈ c, 0 ≤ p.2
theorem W_nil (a b : Int) : W [] a b = 0 := rfl
theorem W_cons (p : Int × Rat) (c : List (Int × Rat)) (a b : Int) : W (p :: c) a b = (if a ≤ p.1 ∧ p.1 < b then p.2 else 0) + W c a b := by unfold W; rw [List.map_cons, sumQ_cons]
theorem W_nn {c : List (Int × Rat)} (h : NN c) (a b : Int) : 0 ≤ W c a b := by
  induction c with
  | nil => exact Rat.le_refl
  | cons p c ih =>
    rw [W_cons]
    have h1 := ih fun q hq => h q (List.mem_cons_of_mem _ hq)
    have h2 := h p List.mem_cons_self
    split <;> grind
theorem W_add {a b d : Int} (h1 : a ≤ b) (h2 : b ≤ d) : ∀ c : List (Int × Rat), W c a d = W c a b + W c b d
  | [] => by rw [W_nil, W_nil, W_nil]; grind
  | p :: c => by
    rw [W_cons, W_cons, W_cons, W_add h1 h2 c]
    by_cases e1 : a ≤ p.1 <;> by_cases e2 : p.1 < b <;> by_cases e3 : p.1 < d <;> by_cases e4 : b ≤ p.1
    all_goals (first | (exfalso; omega) | (simp only [e1, e2, e3, e4, and_self, and_true, true_and, and_false, false_and, if_true, if_false]; grind))
theorem W_empty {a b : Int} (h : b ≤ a) : ∀ c : List (Int × Rat), W c a b = 0
  | [] => rfl
  | p :: c => by
    rw [W_cons, W_empty h c, if_neg (by omega)]
    grind
theorem W_app (c e : List (Int × Rat)) (a b : Int) : W (c ++ e) a b = W c a b + W e a b := by
  induction c with
  | nil => rw [List.nil_append, W_nil]; grind
  | cons p c ih => rw [List.cons_append, W_cons, W_cons, ih]; grind
theorem W_new {c : List (Int × Rat)} {k a b : Int} {q : Rat} (h : gv c k = none) : W (gp c k q) a b = W c a b + if a ≤ k ∧ k < b then q else 0 := by
  rw [gp_new q h, W_app, W_cons, W_nil]
  grind
theorem W_far {c : List (Int × Rat)} {a b b' : Int} (h : ∀ p ∈ c, p.1 < b) (e : b ≤ b') : W c a b' = W c a b := by
  induction c with
  | nil => rfl
  | cons p c ih =>
    rw [W_cons, W_cons, ih fun q hq => h q (List.mem_cons_of_mem _ hq)]
    have := h p List.mem_cons_self
    by_cases e1 : a ≤ p.1
    · rw [if_pos (by omega), if_pos (by omega)]
    · rw [if_neg (by omega), if_neg (by omega)]
theorem win_W (c : List (Int × Rat)) (lo hi : Int) : sumQ (win c lo hi) = W c (lo + 1) hi := by
  induction c with
  | nil => rfl
  | cons p c ih =>
    rw [W_cons, ← ih]
    unfold win
    rw [List.filter_cons]
    by_cases e : lo < p.1 ∧ p.1 < hi
    · rw [if_pos (by simpa using e), if_pos (by omega), List.map_cons, sumQ_cons]
    · rw [if_neg (by simpa using e), if_neg (by omega)]
      grind
theorem W_one {c : List (Int × Rat)} (h : ND c) (k : Int) : W c k (k + 1) = (gv c k).getD 0 := by
  induction c with
  | nil => rfl
  | cons p c ih =>
    have h' := List.nodup_cons.mp (show (p.1 :: c.map (·.1)).Nodup from h)
    rw [W_cons, ih h'.2, gv_cons]
    by_cases e : p.1 = k
    · have : gv c k = none := gv_none.mpr (by rw [← e]; exact h'.1)
      rw [if_pos (by omega), if_pos e, this]
      show p.2 + 0 = p.2
      grind
    · rw [if_neg (by omega), if_neg e]
      grind
theorem flow_W {c : List (Int × Rat)} (h : ND c) (lo : Int) : ∀ n : Nat, sumQ (flowing c lo n) = W c lo (lo + (n : Int))
  | 0 => by rw [W_empty (by omega)]; rfl
  | n + 1 => by
    have e : flowing c lo (n + 1) = flowing c lo n ++ [(gv c (lo + (n : Int))).getD 0] := by unfold flowing; rw [List.range_succ, List.map_append]; rfl
    have e2 : sumQ (flowing c lo n ++ [(gv c (lo + (n : Int))).getD 0]) = sumQ (flowing c lo n) + (gv c (lo + (n : Int))).getD 0 := by unfold sumQ; rw [List.foldl_append]; rfl
    rw [e, e2, flow_W h lo n, W_add (a := lo) (b := lo + (n : Int)) (d := lo + ((n + 1 : Nat) : Int)) (by omega) (by omega), show lo + ((n + 1 : Nat) : Int) = (lo + (n : Int)) + 1 by omega, W_one h]
/-- what holds ahead of the tick j -/
structure Ov (way age : Int) (top : Rat) (j : Nat) (c cn : List (Int × Rat)) (here sent out : Rat) : Prop where
  nd : ND c
  kc : ∀ p ∈ c, 0 ≤ p.1 ∧ p.1 < (j : Int)
  nn : NN c
  kn : ∀ k : Int, -1 ≤ k → k < (j : Int) → ∃ n, gv cn k = some n ∧ 0 ≤ n ∧ n ≤ top ∧ here ≤ top - n + W c (k - way + 1) ((j : Int) - way)
  kn2 : ∀ k : Int, (k < -1 ∨ (j : Int) ≤ k) → gv cn k = none
  h0 : 0 ≤ here
  full : here + W c ((j : Int) - way) (j : Int) ≤ top
  keep : sent = W c ((j : Int) - way) (j : Int) + here + out
theorem gv_far {c : List (Int × Rat)} {j : Int} (h : ∀ p ∈ c, 0 ≤ p.1 ∧ p.1 < j) : gv c j = none := by
  refine gv_none.mpr fun z => ?_
  obtain ⟨p, hp, e⟩ := List.mem_map.mp z
  have := (h p hp).2
  omega
section
variable {way age : Int} {top here sent out : Rat} {j : Nat} {c cn : List (Int × Rat)}
theorem Ov.comes (h : Ov way age top j c cn here sent out) (hw : 1 ≤ way) : 0 ≤ (gv c ((j : Int) - way)).getD 0 ∧ here + (gv c ((j : Int) - way)).getD 0 ≤ top := by
  rw [← W_one h.nd]
  have h1 := W_nn h.nn ((j : Int) - way) ((j : Int) - way + 1)
  have h2 := W_nn h.nn ((j : Int) - way + 1) (j : Int)
  have h3 := W_add (a := (j : Int) - way) (b := (j : Int) - way + 1) (d := (j : Int)) (by omega) (by omega) c
  have h4 := h.full
  constructor <;> grind
theorem Ov.next {given part made : Rat} {k : Int} (h : Ov way age top j c cn here sent out) (hw : 1 ≤ way) (g0 : 0 ≤ given)
    (hg : given = 0 ∨ ∃ (k : Int) (n : Rat), -1 ≤ k ∧ k < (j : Int) ∧ gv cn k = some n ∧ given ≤ n - W c (k - way + 1) (j : Int)) (p0 : 0 ≤ part) (p1 : part ≤ here + (gv c ((j : Int) - way)).getD 0) :
    Ov way age top (j + 1) (gp c (j : Int) given) (gp cn (j : Int) (top - (here + (gv c ((j : Int) - way)).getD 0 - part))) (here + (gv c ((j : Int) - way)).getD 0 - part) (sent + given) (out + part) := by
  have hn := gv_far h.kc
  obtain ⟨c0, c1⟩ := h.comes hw
  have full := h.full
  have keep := h.keep
  have hh0 := h.h0
  have ec := W_one h.nd ((j : Int) - way)
  have a1 := W_add (a := (j : Int) - way) (b := (j : Int) - way + 1) (d := (j : Int)) (by omega) (by omega) c
  rw [ec] at a1
  have cj : (((j + 1 : Nat) : Int)) = (j : Int) + 1 := by omega
  have eW : W (gp c (j : Int) given) ((j : Int) + 1 - way) ((j : Int) + 1) = W c ((j : Int) - way + 1) (j : Int) + given := by
    rw [W_new hn, if_pos (by omega), W_far (b := (j : Int)) (fun p hp => (h.kc p hp).2) (by omega), show (j : Int) + 1 - way = (j : Int) - way + 1 by omega]
  generalize (gv c ((j : Int) - way)).getD 0 = comes at *
  have room : here + W c ((j : Int) - way) (j : Int) + given ≤ top := by
    rcases hg with e | ⟨k, n, k1, k2, hk, hle⟩
    · grind
    · obtain ⟨n', e1, _, _, e2⟩ := h.kn k k1 k2
      rw [hk] at e1
      obtain rfl := Option.some.inj e1
      have a2 := W_add (a := k - way + 1) (b := (j : Int) - way) (d := (j : Int)) (by omega) (by omega) c
      grind
  refine ⟨nd_gp h.nd _ _, fun p hp => ?_, fun p hp => ?_, fun k k1 k2 => ?_, fun k hk => ?_, by grind, ?_, ?_⟩
  · rw [gp_new given hn] at hp
    rcases List.mem_append.mp hp with q | q
    · have := h.kc p q; omega
    · rw [List.mem_singleton.mp q]; show 0 ≤ (j : Int) ∧ (j : Int) < ((j + 1 : Nat) : Int); omega
  · rcases gp_mem hp with q | q
    · rw [q]; exact g0
    · exact h.nn p q
  · rw [cj] at k2
    rw [gv_gp, cj]
    by_cases e : k = (j : Int)
    · rw [if_pos e]
      refine ⟨_, rfl, by grind, by grind, ?_⟩
      rw [e, W_empty (by omega)]
      grind
    · rw [if_neg e]
      obtain ⟨n, e1, e2, e3, e4⟩ := h.kn k k1 (by omega)
      refine ⟨n, e1, e2, e3, ?_⟩
      rw [W_new hn, if_neg (by omega)]
      have a2 := W_add (a := k - way + 1) (b := (j : Int) - way) (d := (j : Int) - way + 1) (by omega) (by omega) c
      rw [ec] at a2
      rw [show (j : Int) + 1 - way = (j : Int) - way + 1 by omega]
      grind
  · rw [gv_gp, if_neg (by omega)]
    exact h.kn2 k (by omega)
  · rw [cj, eW]
    grind
  · rw [cj, eW]
    grind
end
end Yk

set_option maxHeartbeats 4000000
namespace Yk
open PySem PySem.Spec PyProof.Rows L2

/-! _law_same where an error is handled. -/
local macro_rules | `(tactic| walk_at "st") => `(tactic| first | with_reducible refine' r_iZip2 ?_)
section
variable {P : Program} {w : World} {K : PySem.W.Frag} {mg : Str → Option Value} {base : Heap} {f : Addr} {fd : FuncData}
theorem h_law_same (F : FunD K "_law_same" "_law_same" (defArgs s_law_same) (defBody s_law_same) (defScope s_law_same) [] [] f fd) (hm : mg "_law_same" = some (.ref f)) (T : Bt mg) (n : Nat) (G_law_same : FnT P w K mg base n "_law_same" (spLike K n)) : FnT P w K mg base (n+1) "_law_same" (spLike K (n + 1)) := by
  refine fnT_def F hm c_law_same (fun vs H Q E h => ?_) (fun _ _ _ _ _ _ us hl => match us, hl with | [_, _], _ => rfl) (fun cdv A outer s H vs Q E p hot hr h => ?_)
  · obtain ⟨v1, v2, rfl, _⟩ := h
    rfl
  · obtain ⟨v1, v2, rfl, he, k⟩ := h
    have nd := c_law_same.nd
    refine ⟨_, (pss_cons (ps_if (pt_val (pe_callB call_isiT (by rfl) T.isinstance (by decide +kernel) (pa_cons (pv 1) (pa_cons (pe_tup (pa_cons (pe_bltn (v := .ty "tuple") (by rfl) T.tuple (by decide +kernel) rfl) (pa_cons (pe_bltn (v := .ty "list") (by rfl) T.list (by decide +kernel) rfl) pa_nil))) pa_nil))))
        (pss_cons (ps_if (PW.pt (pw_or (pt_cmpR op_ne (pe_callB call_isi (by rfl) T.isinstance (by decide +kernel) (pa_cons (pv 0) (pa_cons (pe_bltn (v := .ty "tuple") (by rfl) T.tuple (by decide +kernel) rfl) pa_nil))) (pe_callB call_isi (by rfl) T.isinstance (by decide +kernel) (pa_cons (pv 1) (pa_cons (pe_bltn (v := .ty "tuple") (by rfl) T.tuple (by decide +kernel) rfl) pa_nil))) (nomark _)) (pw_or1 (pt_cmpR op_ne (pe_callB call_isi (by rfl) T.isinstance (by decide +kernel) (pa_cons (pv 0) (pa_cons (pe_bltn (v := .ty "list") (by rfl) T.list (by decide +kernel) rfl) pa_nil))) (pe_callB call_isi (by rfl) T.isinstance (by decide +kernel) (pa_cons (pv 1) (pa_cons (pe_bltn (v := .ty "list") (by rfl) T.list (by decide +kernel) rfl) pa_nil))) (nomark _)))))
          (pss_one (ps_ret pe_bl))
          pss_nil)
        (pss_one (ps_ret (pe_and (pe_cmpR op_eq (pe_callB cr_len (by rfl) T.len (by decide +kernel) (pa_cons (pv 0) pa_nil)) (pe_callB cr_len (by rfl) T.len (by decide +kernel) (pa_cons (pv 1) pa_nil)) (nomark _)) (pe_one (pe_callB (cr_allH ⟨p, hot, List.mem_singleton.mpr rfl⟩) (by rfl) T.all (by decide +kernel) (pa_cons (pe_lcH (own := [("_law_one", 2), ("_law_two", 3)])  ⟨p, hot, List.mem_singleton.mpr rfl⟩ nd (pi_zip2H (by rfl) T.zip (pa_cons (pv 0) (pa_cons (pv 1) pa_nil))) (blkOk_by (N := ["_law_told", "_law_due", "_law_one", "_law_two"]) (sc := defScope s_law_same) (by decide +kernel)) (fun _ _ _ _ _ => (pg_tupH (n := 2) ⟨p, hot, List.mem_singleton.mpr rfl⟩ (pgs_cons (pg_name (i := 2) nd rfl (Or.inl rfl)) (pgs_cons (pg_name (i := 3) nd rfl (Or.inl rfl)) pgs_nil)) : PG _ _ (gTup K 2 _))) (fun _ _ _ _ _ => pts_nil) (fun _ _ _ _ _ => (pe_fnT G_law_same (hr.mono (Nat.le_refl _)) ⟨p, hot, List.mem_singleton.mpr rfl⟩ (pa_cons (pv 2) (pa_cons (pv 3) pa_nil))))) pa_nil)))))))
        pss_nil)
      (pss_cons (ps_if (PW.pt (pw_or (pt_cmpR op_isN (pv 1) pe_non (nomark _)) (pw_or1 (pt_cmpR op_isN (pv 0) pe_non (nomark _)))))
        (pss_one (ps_ret (pe_and (pe_cmpR op_isN (pv 1) pe_non (nomark _)) (pe_one (pe_cmpR op_isN (pv 0) pe_non (nomark _))))))
        pss_nil)
      (pss_cons (ps_if (PW.pt (pw_or (pt_cmpR op_ne (pe_callB call_isi (by rfl) T.isinstance (by decide +kernel) (pa_cons (pv 0) (pa_cons (pe_bltn (v := .ty "bool") (by rfl) T.bool (by decide +kernel) rfl) pa_nil))) (pe_callB call_isi (by rfl) T.isinstance (by decide +kernel) (pa_cons (pv 1) (pa_cons (pe_bltn (v := .ty "bool") (by rfl) T.bool (by decide +kernel) rfl) pa_nil))) (nomark _)) (pw_or1 (pt_cmpR op_ne (pe_callB call_isi (by rfl) T.isinstance (by decide +kernel) (pa_cons (pv 0) (pa_cons (pe_bltn (v := .ty "int") (by rfl) T.int (by decide +kernel) rfl) pa_nil))) (pe_callB call_isi (by rfl) T.isinstance (by decide +kernel) (pa_cons (pv 1) (pa_cons (pe_bltn (v := .ty "int") (by rfl) T.int (by decide +kernel) rfl) pa_nil))) (nomark _)))))
        (pss_one (ps_ret pe_bl))
        pss_nil)
      (pss_one (ps_ret (pe_and (pe_cmpR op_eq (pe_callB call_isi (by rfl) T.isinstance (by decide +kernel) (pa_cons (pv 0) (pa_cons (pe_bltn (v := .ty "str") (by rfl) T.str (by decide +kernel) rfl) pa_nil))) (pe_callB call_isi (by rfl) T.isinstance (by decide +kernel) (pa_cons (pv 1) (pa_cons (pe_bltn (v := .ty "str") (by rfl) T.str (by decide +kernel) rfl) pa_nil))) (nomark _)) (pe_one (pe_cmpR op_eq (pv 0) (pv 1) (nomark _))))))))), ?_⟩
    show (_ : TS) _ [some _, some _, none, none] _
    try dsimp only [cxOf, Cx.nox]
    cases he with
    | non n =>
      walk_at "run"
      exact k _ (by walk_at "ext")
    | bl n b =>
      walk_at "run"
      rw [decide_eq_true rfl]
      exact k _ (by walk_at "ext")
    | int n i =>
      walk_at "run"
      rw [decide_eq_true rfl]
      exact k _ (by walk_at "ext")
    | str n z =>
      walk_at "run"
      rw [decide_eq_true rfl]
      exact k _ (by walk_at "ext")
    | @tup n a b xs ys ha hb hl h4 h =>
      walk_at "run"
      refine r_true (len_is (by rw [hl])) ?_
      walk_at "run"
      refine ⟨false, false, a, b, xs, ys, rfl, (show SqT K _ a xs by walk_at "sq"), (show SqT K _ b ys by walk_at "sq"), fun D hD => ?_⟩
      generalize hH : upd H _ _ = H0 at *
      have e0 : Ext [] H H0 := by
        rw [← hH]
        walk_at "ext"
      refine r_lcZ2 hl (fun i H1 => Ext [] H0 H1 ∧ H1 D = some (.lst ((List.replicate i true).map V.bl))) ⟨Ext.refl.new hD, upd_same⟩ (fun i H1 p => ⟨tup0 (e0.trans p.1) ha, tup0 (e0.trans p.1) hb⟩) ?_ ?_
      · rintro i x y T H1 hx hy ⟨e1, hD1⟩ hT
        walk_at "run"
        refine ⟨rfl, ?_⟩
        walk_at "run"
        have hi : i < xs.length := (List.getElem?_eq_some_iff.mp hx).1
        have e2 : Ext [] H0 (upd H1 T (.tup [x, y])) := e1.new hT
        refine ⟨x, y, rfl, (h i x y hx hy).x0 (e0.trans e2), fun H2 e3 => ?_⟩
        have hD2 : H2 D = some (.lst ((List.replicate i true).map V.bl)) := e3 _ _ (by rw [upd_ne (ne_of_none hD1 hT)]; exact hD1) fun z => nomatch z
        refine ⟨_, hD2, ?_, (e2.trans e3).own hD, ?_⟩
        · rw [List.length_map, List.length_replicate]
          exact Nat.lt_of_le_of_lt (by omega : i ≤ 4000) (by decide)
        · rw [List.replicate_succ', List.map_append]
          exact upd_same
      · rintro H1 ⟨e1, hD1⟩
        walk_at "run"
        refine r_all (bs := List.replicate xs.length true) (.inl (.inl hD1)) ?_
        rw [show (List.replicate xs.length true).all id = true by simp]
        exact k _ (e0.trans e1)
    | @lst n a b xs ys ha hb hl h4 h =>
      walk_at "run"
      refine r_true (len_is (by rw [hl])) ?_
      walk_at "run"
      refine ⟨true, true, a, b, xs, ys, rfl, (show SqL K _ a xs by walk_at "sq"), (show SqL K _ b ys by walk_at "sq"), fun D hD => ?_⟩
      generalize hH : upd H _ _ = H0 at *
      have e0 : Ext [] H H0 := by
        rw [← hH]
        walk_at "ext"
      refine r_lcZ2 hl (fun i H1 => Ext [] H0 H1 ∧ H1 D = some (.lst ((List.replicate i true).map V.bl))) ⟨Ext.refl.new hD, upd_same⟩ (fun i H1 p => ⟨lst0 (e0.trans p.1) ha, lst0 (e0.trans p.1) hb⟩) ?_ ?_
      · rintro i x y T H1 hx hy ⟨e1, hD1⟩ hT
        walk_at "run"
        refine ⟨rfl, ?_⟩
        walk_at "run"
        have hi : i < xs.length := (List.getElem?_eq_some_iff.mp hx).1
        have e2 : Ext [] H0 (upd H1 T (.tup [x, y])) := e1.new hT
        refine ⟨x, y, rfl, (h i x y hx hy).x0 (e0.trans e2), fun H2 e3 => ?_⟩
        have hD2 : H2 D = some (.lst ((List.replicate i true).map V.bl)) := e3 _ _ (by rw [upd_ne (ne_of_none hD1 hT)]; exact hD1) fun z => nomatch z
        refine ⟨_, hD2, ?_, (e2.trans e3).own hD, ?_⟩
        · rw [List.length_map, List.length_replicate]
          exact Nat.lt_of_le_of_lt (by omega : i ≤ 4000) (by decide)
        · rw [List.replicate_succ', List.map_append]
          exact upd_same
      · rintro H1 ⟨e1, hD1⟩
        walk_at "run"
        refine r_all (bs := List.replicate xs.length true) (.inl (.inl hD1)) ?_
        rw [show (List.replicate xs.length true).all id = true by simp]
        exact k _ (e0.trans e1)
end
end Yk

set_option maxHeartbeats 4000000
namespace Yk
open PySem PySem.Spec PyProof.Rows L2

local macro_rules | `(tactic| walk_at "st") => `(tactic| first
  | with_reducible refine' r_tAt ?_
  | ((with_reducible refine' r_fld ?h1 ?h2 ?h3); (case h1 => first | assumption | exact upd_same); (case h2 => first | walk_at "lk" | rfl))
  | with_reducible refine' r_sAt ?_
  | ((with_reducible refine' r_putU ?h1 ?h2); (case h1 => (repeat refine putF_lt ?_); decide))
  | ((with_reducible refine' r_put ?h1 ?h2 ?h3); (case h1 => first | assumption | exact upd_same); (case h2 => (repeat refine putF_lt ?_); decide))
  | with_reducible refine' r_tMt ?_
  | ((with_reducible refine' r_met ?h1 ?h2 ?h3); (case h1 => first | assumption | exact upd_same); (case h2 => first | walk_at "lk" | rfl))
  | with_reducible refine' r_tCr ?_
  | with_reducible refine' r_tCrK ?_
  | with_reducible refine' r_chain ?_)
local macro_rules | `(tactic| walk_at "st") => `(tactic| first
  | with_reducible refine' r_dget ?_
  | with_reducible refine' r_dc ?_
  | with_reducible refine' r_iVals ?_
  | with_reducible refine' r_dnotin ?_
  | with_reducible refine' r_din ?_
  | with_reducible refine' r_iItems ?_
  | with_reducible refine' r_iKeysT ?_
  | with_reducible refine' r_tget1 ?_
  | with_reducible refine' r_tget2 ?_
  | with_reducible refine' r_dput ?_
  | with_reducible refine' r_tPr ?_
  | ((with_reducible refine' r_prp2 ?h1 ?h2); (case h1 => first | assumption | exact upd_same))
  | with_reducible refine' r_par3 ?_
  | ((with_reducible refine' r_dnT ?_); (intro np hnp))
  | ((with_reducible refine' r_dnK ?_); (intro np hnp)))
/-! A buffer that has not enough; copies of wires and buffers. -/
theorem r_ost {nx : L2.St → Hp → Prop} {rt : VK} {bk ct : L2.St → Hp → Prop} {σ : L2.St} {H : Hp} {K : PySem.W.Frag} {f : Str} {to te : TE} (h : te σ H fun y H1 => to σ H1 fun x H2 => ∃ a C : Addr, x = .ref a ∧ OexC K C ∧ PySem.W.findIn K (.ref C) f = some none ∧
  ((H2 a = some (exo a C none) ∧ ∀ dx, H2 dx = none → dx ≠ a → nx σ (upd (upd H2 dx (exd dx [(f, y)])) a (exo a C (some dx)))) ∨
    ∃ (dx : Addr) (fs : List (Str × V)), H2 a = some (exo a C (some dx)) ∧ H2 dx = some (exd dx fs) ∧ fs.length ≤ 900 ∧ nx σ (upd H2 dx (exd dx ((f, y) :: fs))))) : tOst K f to te ⟨nx, rt, bk, ct⟩ σ H := h
theorem Ext.newx {H G H1 : Hp} {x : Addr} (e : Ext [] H G) (e1 : Ext [x] G H1) (hx : H x = none) : Ext [] H H1 := fun b o hb _ => e1 b o (e b o hb fun z => nomatch z) fun z => by
  rw [List.mem_singleton.mp z, hx] at hb
  cases hb
local macro_rules | `(tactic| walk_at "st") => `(tactic| first
  | with_reducible refine' r_ost ?_
  | with_reducible refine' r_raise1 ?_)
section
variable {P : Program} {w : World} {K : PySem.W.Frag} {mg : Str → Option Value} {base : Heap} {f : Addr} {fd : FuncData}
abbrev s_Short___init__ : Stmt := inClass (top 4) 0
theorem c_Short___init__ : FnScope ["self", "amount"] ["self", "amount"] (defScope s_Short___init__) := ⟨rfl, rfl, rfl, by decide +kernel, rfl, by decide +kernel, by decide +kernel⟩
theorem f_Short___init__ (F : FunD K "__init__" "Short.__init__" (defArgs s_Short___init__) (defBody s_Short___init__) (defScope s_Short___init__) [] [] f fd) {cShort : Addr} (YShort : Xc K mg "Short" cShort) (NShort_amount : PySem.W.findIn K (.ref cShort) "amount" = some none) : FnOk P w K mg base CX0 1 f fd ["self", "amount"] (spInit1 cShort "amount") := by
  refine ok_meth F c_Short___init__ (fun vs H Q E h => ?_) (fun cdv A outer s H vs Q E hr h => ?_)
  · obtain ⟨a, v, rfl, _⟩ := h
    rfl
  · obtain ⟨a, v, rfl, ha, k⟩ := h
    have nd := c_Short___init__.nd
    refine ⟨_, (pss_one (ps_ost (pv 0) (pv 1))), ?_⟩
    show (_ : TS) _ [some _, some _] _
    try dsimp only [cxOf, Cx.nox]
    walk_at "run"
    exact ⟨a, cShort, rfl, YShort.oe, NShort_amount, .inl ⟨ha, fun d hd hda => k d hd hda⟩⟩
end
local macro_rules | `(tactic| walk_at "lk") => `(tactic| first | with_reducible exact lk_Buf_size | with_reducible exact lk_Buf_water | with_reducible exact lk_Buf_most | with_reducible exact lk_Wire_way | with_reducible exact lk_Wire_sent | exact lk_Buf_no (by decide +kernel) (by decide +kernel) (by decide +kernel) | exact lk_Wire_no (by decide +kernel) (by decide +kernel))
section
variable {P : Program} {w : World} {K : PySem.W.Frag} {mg : Str → Option Value} {base : Heap} {f : Addr} {fd : FuncData}
def spGiveX (cB cS : Addr) (K : PySem.W.Frag) : Sp := fun vs H _ E => ∃ (a : Addr) (v : V) (s q m p : Rat), vs = [.ref a, v] ∧ BufAt cB K H a s q m ∧ Am K H v p ∧ q < p ∧ Sz 4000 q ∧ Sz 4000 p ∧ ∀ d, H d = none → E (.ref cS) (some d) (upd H d (.xd [("amount", v)]))
theorem x_Buffer_give (F : FunD K "give" "Buffer.give" (defArgs s_Buffer_give) (defBody s_Buffer_give) (defScope s_Buffer_give) [] [] f fd) {cB cS : Addr} (TBuffer : Ct K mg "Buffer" cB ["size", "_water", "_most"]) (Fcompare : Fn P w K mg base 1 "compare" (spCompare K)) (Fminus : Fn P w K mg base 2 "minus" (spMinus K)) (XShort : Xi P w K mg base 1 "Short" cS (spInit1 cS "amount")) : FnOk P w K mg base (L2N.CX P w) 3 f fd ["self", "water"] (spGiveX cB cS K) := by
  refine ok_methX F c_Buffer_give (fun vs H Q E h => ?_) (fun cdv A outer s H vs Q E hr h => ?_)
  · obtain ⟨a, v, s, q, m, p, rfl, _⟩ := h
    rfl
  · obtain ⟨a, v, s, q, m, p, rfl, hB, av, hlt, zq, zp, k⟩ := h
    have nd := c_Buffer_give.nd
    refine ⟨_, (pss_cons (ps_if (pt_cmpR op_lt (pe_fn Fcompare (hr.mono (by decide)) (pa_cons (pe_at TBuffer (by decide +kernel) (pv 0)) (pa_cons (pv 1) pa_nil))) pe_int (nomark _))
        (pss_one (ps_raise1 XShort (hr.mono (by decide)) rfl (L2N.takes_of rfl rfl rfl rfl) (pa_cons (pv 1) pa_nil)))
        pss_nil)
      (pss_one (ps_at TBuffer (by decide +kernel) (pv 0) (pe_fn Fminus (hr.mono (by decide)) (pa_cons (pe_at TBuffer (by decide +kernel) (pv 0)) (pa_cons (pv 1) pa_nil)))))), ?_⟩
    show (_ : TS) _ [some _, some _] _
    try dsimp only [cxOf, Cx.nox]
    obtain ⟨dx, vs, vq, vm, ha, a1, a2, a3⟩ := id hB
    walk_at "go"
    refine k_cmp a2 av zq zp ?_
    walk_at "go"
    refine r_dec (fun _ => ?_) (fun hn => absurd ((cmp_lt _ _).mpr hlt) hn)
    walk_at "go"
    exact ⟨v, rfl, k⟩
def spBufCopy (cB : Addr) (K : PySem.W.Frag) : Sp := fun vs H Q _ => ∃ (a : Addr) (s q m : Rat), vs = [.ref a] ∧ BufAt cB K H a s q m ∧ ∀ a' H', H a' = none → Ext [] H H' → BufAt cB K H' a' s q m → Q (.ref a') H'
abbrev s_Buffer_copy : Stmt := inClass (top 14) 6
theorem c_Buffer_copy : FnScope ["self", "other"] ["self"] (defScope s_Buffer_copy) := ⟨rfl, rfl, rfl, by decide +kernel, rfl, by decide +kernel, by decide +kernel⟩
theorem f_Buffer_copy (F : FunD K "copy" "Buffer.copy" (defArgs s_Buffer_copy) (defBody s_Buffer_copy) (defScope s_Buffer_copy) [] [] f fd) {cB : Addr} (TBuffer : Ct K mg "Buffer" cB ["size", "_water", "_most"]) (RBuffer : Cr P w K mg base 1 "Buffer" cB (spBufInit cB K)) : FnOk P w K mg base CX0 3 f fd ["self"] (spBufCopy cB K) := by
  refine ok_meth F c_Buffer_copy (fun vs H Q E h => ?_) (fun cdv A outer s H vs Q E hr h => ?_)
  · obtain ⟨a, s, q, m, rfl, _⟩ := h
    rfl
  · obtain ⟨a, s, q, m, rfl, ⟨dx, vs, vq, vm, ha, a1, a2, a3⟩, k⟩ := h
    have nd := c_Buffer_copy.nd
    refine ⟨_, (pss_cons (ps_set (i := 1) nd rfl (by first | exact Or.inl rfl | exact Or.inr rfl) (pe_cr RBuffer (hr.mono (by decide)) (pa_cons (pe_at TBuffer (by decide +kernel) (pv 0)) pa_nil)))
      (pss_cons (ps_at TBuffer (by decide +kernel) (pv 1) (pe_at TBuffer (by decide +kernel) (pv 0)))
      (pss_cons (ps_at TBuffer (by decide +kernel) (pv 1) (pe_at TBuffer (by decide +kernel) (pv 0)))
      (pss_one (ps_ret (pv 1)))))), ?_⟩
    show (_ : TS) _ [some _, none] _
    try dsimp only [cxOf, Cx.nox]
    walk_at "go"
    intro x dx' hx hdx hne
    have e0 : Ext [] H (upd (upd H dx' (.own x)) x (.ins cB dx' [])) := (Ext.refl.new hdx).own hx
    refine ⟨x, dx', vs, s, rfl, upd_same, a1.x0 e0, fun H1 e1 hB1 => ⟨rfl, ?_⟩⟩
    have e2 := e0.newx e1 hx
    obtain ⟨dx2, vs2, vq2, vm2, hx2, b1, b2, b3⟩ := hB1
    have ha1 := e2 _ _ ha fun z => nomatch z
    walk_at "go"
    refine r_put hx2 (show 3 < 1000 by decide) ?_
    rw [put_Buf_water]
    have e3 : Ext [x] H1 (upd H1 x (.ins cB dx2 (BufFs vs2 vq vm2))) := Ext.refl.at_ List.mem_cons_self
    have hx3 : upd H1 x (.ins cB dx2 (BufFs vs2 vq vm2)) x = some (.ins cB dx2 (BufFs vs2 vq vm2)) := upd_same
    have ax : a ≠ x := fun z => by rw [z, hx] at ha; cases ha
    have ha3 : upd H1 x (.ins cB dx2 (BufFs vs2 vq vm2)) a = some (.ins cB dx (BufFs vs vq vm)) := by rw [upd_ne ax]; exact ha1
    have c1 := b1.f e3 (no_ins hx2).1
    have e4 := e2.newx e3 hx
    generalize upd H1 x (.ins cB dx2 (BufFs vs2 vq vm2)) = H3 at *
    walk_at "go"
    refine r_put hx3 (show 3 < 1000 by decide) ?_
    rw [put_Buf_most]
    have e5 : Ext [x] H3 (upd H3 x (.ins cB dx2 (BufFs vs2 vq vm))) := Ext.refl.at_ List.mem_cons_self
    have e6 := e4.newx e5 hx
    walk_at "go"
    exact k x _ hx e6 ⟨dx2, vs2, vq, vm, upd_same, c1.f e5 (no_ins hx3).1, a2.x0 e6, a3.x0 e6⟩
def spWireCopy (cW : Addr) (K : PySem.W.Frag) : Sp := fun vs H Q _ => ∃ (d a : Addr) (way : Int) (c : List (Int × Rat)), vs = [.ref a] ∧ WireAt cW K H d a way c ∧ ∀ d' a' H', H a' = none → H d' = none → d' ≠ a' → Ext [] H H' → WireAt cW K H' d' a' way c → Q (.ref a') H'
theorem put_Wire {way : Int} {d D : Addr} : putF "_sent" (V.ref D) (WireFs way d) = WireFs way D := by kernel_rfl
abbrev s_Wire_copy : Stmt := inClass (top 18) 4
theorem c_Wire_copy : FnScope ["self", "other"] ["self"] (defScope s_Wire_copy) := ⟨rfl, rfl, rfl, by decide +kernel, rfl, by decide +kernel, by decide +kernel⟩
theorem f_Wire_copy (F : FunD K "copy" "Wire.copy" (defArgs s_Wire_copy) (defBody s_Wire_copy) (defScope s_Wire_copy) [] [] f fd) {cW : Addr} (Tdict : mg "dict" = none) (TWire : Ct K mg "Wire" cW ["_way", "_sent"]) (RWire : Cr P w K mg base 1 "Wire" cW (spWireInit cW)) : FnOk P w K mg base CX0 3 f fd ["self"] (spWireCopy cW K) := by
  refine ok_meth F c_Wire_copy (fun vs H Q E h => ?_) (fun cdv A outer s H vs Q E hr h => ?_)
  · obtain ⟨d, a, way, c, rfl, _⟩ := h
    rfl
  · obtain ⟨d, a, way, c, rfl, ⟨dx, l, ha, hd, hl⟩, k⟩ := h
    have nd := c_Wire_copy.nd
    refine ⟨_, (pss_cons (ps_set (i := 1) nd rfl (by first | exact Or.inl rfl | exact Or.inr rfl) (pe_cr RWire (hr.mono (by decide)) (pa_cons (pe_at TWire (by decide +kernel) (pv 0)) pa_nil)))
      (pss_cons (ps_at TWire (by decide +kernel) (pv 1) (pe_callTy call_dictD (by rfl) Tdict (by decide +kernel) (pa_cons (pe_at TWire (by decide +kernel) (pv 0)) pa_nil)))
      (pss_one (ps_ret (pv 1))))), ?_⟩
    show (_ : TS) _ [some _, none] _
    try dsimp only [cxOf, Cx.nox]
    walk_at "go"
    intro x dx' hx hdx hne
    refine ⟨x, dx', way, rfl, upd_same, fun d2 hd2 hne2 => ⟨rfl, ?_⟩⟩
    have hdd : d2 ≠ dx' := fun z => by rw [z, upd_ne hne, upd_same] at hd2; cases hd2
    have hd20 : H d2 = none := by rw [upd_ne hne2, upd_ne hdd] at hd2; exact hd2
    have e1 : Ext [] H (upd (upd (upd (upd H dx' (.own x)) x (.ins cW dx' [])) d2 (.dK [])) x (.ins cW dx' (WireFs way d2))) := (((Ext.refl.new hdx).own hx).own hd20).own hx
    have hx1 : upd (upd (upd (upd H dx' (.own x)) x (.ins cW dx' [])) d2 (.dK [])) x (.ins cW dx' (WireFs way d2)) x = some (.ins cW dx' (WireFs way d2)) := upd_same
    generalize upd (upd (upd (upd H dx' (.own x)) x (.ins cW dx' [])) d2 (.dK [])) x (.ins cW dx' (WireFs way d2)) = H1 at *
    have hd1 := e1 _ _ hd fun z => nomatch z
    have ha1 := e1 _ _ ha fun z => nomatch z
    walk_at "go"
    refine ⟨d, l, rfl, .inl hd1, fun p hp => ?_⟩
    have hpx : p ≠ x := fun z => by rw [z, hx1] at hp; cases hp
    have hx2 : upd H1 p (.dK l) x = some (.ins cW dx' (WireFs way d2)) := by rw [upd_ne hpx.symm]; exact hx1
    have e2 := (e1.new (o := .dK l) hp).own (o := .ins cW dx' (WireFs way p)) hx
    walk_at "go"
    refine r_put hx2 (show 2 < 1000 by decide) ?_
    rw [put_Wire]
    walk_at "go"
    exact k p x _ hx (e1.free hp) hpx e2 ⟨dx', l, upd_same, by rw [upd_ne hpx]; exact upd_same, hl.imp fun _ _ z => z.x0 e2⟩
end
end Yk

set_option maxHeartbeats 4000000
namespace Yk
open PySem PySem.Spec PyProof.Rows L2

local macro_rules | `(tactic| walk_at "st") => `(tactic| first
  | with_reducible refine' r_tAt ?_
  | ((with_reducible refine' r_fld ?h1 ?h2 ?h3); (case h1 => first | assumption | exact upd_same); (case h2 => first | walk_at "lk" | rfl))
  | with_reducible refine' r_sAt ?_
  | ((with_reducible refine' r_putU ?h1 ?h2); (case h1 => (repeat refine putF_lt ?_); decide))
  | ((with_reducible refine' r_put ?h1 ?h2 ?h3); (case h1 => first | assumption | exact upd_same); (case h2 => (repeat refine putF_lt ?_); decide))
  | with_reducible refine' r_tMt ?_
  | ((with_reducible refine' r_met ?h1 ?h2 ?h3); (case h1 => first | assumption | exact upd_same); (case h2 => first | walk_at "lk" | rfl))
  | with_reducible refine' r_tCr ?_
  | with_reducible refine' r_tCrK ?_
  | with_reducible refine' r_chain ?_)
local macro_rules | `(tactic| walk_at "st") => `(tactic| first
  | with_reducible refine' r_dget ?_
  | with_reducible refine' r_dc ?_
  | with_reducible refine' r_iVals ?_
  | with_reducible refine' r_dnotin ?_
  | with_reducible refine' r_din ?_
  | with_reducible refine' r_iItems ?_
  | with_reducible refine' r_iKeysT ?_
  | with_reducible refine' r_tget1 ?_
  | with_reducible refine' r_tget2 ?_
  | with_reducible refine' r_dput ?_
  | with_reducible refine' r_tPr ?_
  | ((with_reducible refine' r_prp2 ?h1 ?h2); (case h1 => first | assumption | exact upd_same))
  | with_reducible refine' r_par3 ?_
  | ((with_reducible refine' r_dnT ?_); (intro np hnp))
  | ((with_reducible refine' r_dnK ?_); (intro np hnp)))
/-! The law's looks at a buffer. -/
local macro_rules | `(tactic| walk_at "st") => `(tactic| first
  | with_reducible refine' r_tMtX ?_
  | with_reducible refine' r_tXf ?_)
local macro_rules | `(tactic| walk_at "lk") => `(tactic| first | with_reducible exact lk_Buf_size | with_reducible exact lk_Buf_water | with_reducible exact lk_Buf_most | exact lk_Buf_no (by decide +kernel) (by decide +kernel) (by decide +kernel))
section
variable {P : Program} {w : World} {K : PySem.W.Frag} {mg : Str → Option Value} {base : Heap} {f : Addr} {fd : FuncData}
def spShort (cB : Addr) (K : PySem.W.Frag) : Sp := fun vs H Q _ => ∃ (a : Addr) (v : V) (s q m p : Rat), vs = [.ref a, v] ∧ BufAt cB K H a s q m ∧ Am K H v p ∧ q < p ∧ Sz 4000 q ∧ Sz 4000 p ∧ ∀ H', Ext [] H H' → Q (.bl true) H'
abbrev s_law_short : Stmt := top 36
theorem c_law_short : FnScope ["_law_told", "_law_one", "error"] ["_law_told", "_law_one"] (defScope s_law_short) := ⟨rfl, rfl, rfl, by decide +kernel, rfl, by decide +kernel, by decide +kernel⟩
theorem f_law_short (F : FunD K "_law_short" "_law_short" (defArgs s_law_short) (defBody s_law_short) (defScope s_law_short) [] [] f fd) (hm : mg "_law_short" = some (.ref f)) {cB cShort cBandError : Addr} (T : Bt mg) (XBuffer_give : MtX P w K mg base 3 cB "give" (spGiveX cB cShort K)) (YShort : Xc K mg "Short" cShort) (NShort_amount : PySem.W.findIn K (.ref cShort) "amount" = some none) (eShort : PySem.W.exmOne K (.ref cShort) (.ref cShort) = some true) (kShort : PySem.W.kitOne K (.ref cShort) (.ref cBandError) = some true) (mBandError : mg "BandError" = some (.ref cBandError)) (G_law_same : FnT P w K mg base 4 "_law_same" (spLike K 4)) : Fn P w K mg base 6 "_law_short" (spShort cB K) := by
  refine fn_def F hm c_law_short (fun vs H Q E h => ?_) (fun _ _ _ _ _ _ us hl => match us, hl with | [_, _], _ => rfl) (fun cdv A outer s H vs Q E hr h => ?_)
  · obtain ⟨a, v, s, q, m, p, rfl, _⟩ := h
    rfl
  · obtain ⟨a, v, s, q, m, p, rfl, hB, av, hlt, zq, zp, k⟩ := h
    have nd := c_law_short.nd
    refine ⟨_, (pss_cons (L2N.ps_try_as (i := 2) rfl rfl nd rfl rfl ⟨rfl, by decide, .inl YShort.hm⟩ takesN0 (fun W pn xe tk _ => (pss_one (ps_expr (pe_mtX XBuffer_give (hr.mono (by decide)) tk (pv 0) (pa_cons (pv 1) pa_nil))))) (fun a oe cls d pn hz hf => (pss_one (ps_ret (pe_and (pe_fnT G_law_same (L2H.roomH_mark (hr.mono (by decide)) _) (hot_suite hz hf) (pa_cons (pe_xf YShort.xf NShort_amount hz.zc hf (pv 2)) (pa_cons (pv 1) pa_nil))) (pe_one (pe_callB (call_isX YShort hz hf) (by rfl) T.isinstance (by decide +kernel) (pa_cons (pv 2) (pa_cons (pe_glob (v := .ref cBandError) (by rfl) mBandError rfl) pa_nil)))))))))
      (pss_one (ps_ret pe_bl))), ?_⟩
    show (_ : TS) _ [some _, some _, none] _
    try dsimp only [cxOf, Cx.nox]
    obtain ⟨dx, fs, hins⟩ := hB.ins
    obtain ⟨dx, vs, vq, vm, ha, a1, a2, a3⟩ := id hB
    walk_at "go"
    refine ⟨a, v, s, q, m, p, rfl, hB, av, hlt, zq, zp, fun d hd => ?_⟩
    refine r_caught eShort fun x hx => ?_
    have e1 : Ext [] H (upd H d (.xd [("amount", v)])) := Ext.refl.new hd
    have hd1 : upd H d (.xd [("amount", v)]) d = some (.xd [("amount", v)]) := upd_same
    generalize upd H d (.xd [("amount", v)]) = H1 at *
    walk_at "go"
    refine r_xf rfl rfl hd1 rfl ?_
    walk_at "go"
    refine k_like ((av.x0 e1).eqd 2 (av.x0 e1)) fun H2 e2 => ?_
    walk_at "run"
    refine ⟨_, _, true, d, _, rfl, fun u hu => hu, kShort, rfl, rfl, e2 _ _ hd1 (fun z => nomatch z), ?_⟩
    walk_at "run"
    exact k _ (e1.trans e2)
end
end Yk

set_option maxHeartbeats 4000000
namespace Yk
open PySem PySem.Spec PyProof.Rows L2

local macro_rules | `(tactic| walk_at "st") => `(tactic| first
  | with_reducible refine' r_tAt ?_
  | ((with_reducible refine' r_fld ?h1 ?h2 ?h3); (case h1 => first | assumption | exact upd_same); (case h2 => first | walk_at "lk" | rfl))
  | with_reducible refine' r_sAt ?_
  | ((with_reducible refine' r_putU ?h1 ?h2); (case h1 => (repeat refine putF_lt ?_); decide))
  | ((with_reducible refine' r_put ?h1 ?h2 ?h3); (case h1 => first | assumption | exact upd_same); (case h2 => (repeat refine putF_lt ?_); decide))
  | with_reducible refine' r_tMt ?_
  | ((with_reducible refine' r_met ?h1 ?h2 ?h3); (case h1 => first | assumption | exact upd_same); (case h2 => first | walk_at "lk" | rfl))
  | with_reducible refine' r_tCr ?_
  | with_reducible refine' r_tCrK ?_
  | with_reducible refine' r_chain ?_)
local macro_rules | `(tactic| walk_at "st") => `(tactic| first
  | with_reducible refine' r_dget ?_
  | with_reducible refine' r_dc ?_
  | with_reducible refine' r_iVals ?_
  | with_reducible refine' r_dnotin ?_
  | with_reducible refine' r_din ?_
  | with_reducible refine' r_iItems ?_
  | with_reducible refine' r_iKeysT ?_
  | with_reducible refine' r_tget1 ?_
  | with_reducible refine' r_tget2 ?_
  | with_reducible refine' r_dput ?_
  | with_reducible refine' r_tPr ?_
  | ((with_reducible refine' r_prp2 ?h1 ?h2); (case h1 => first | assumption | exact upd_same))
  | with_reducible refine' r_par3 ?_
  | ((with_reducible refine' r_dnT ?_); (intro np hnp))
  | ((with_reducible refine' r_dnK ?_); (intro np hnp)))
/-! A buffer beside the law's own numbers. -/
local macro_rules | `(tactic| walk_at "lk") => `(tactic| first | with_reducible exact lk_Buf_size | with_reducible exact lk_Buf_water | with_reducible exact lk_Buf_most | exact lk_Buf_no (by decide +kernel) (by decide +kernel) (by decide +kernel))
theorem gmax_eq (p q : Rat) : gmax p q = lmax p q := by unfold gmax lmax; grind
theorem lmin_same {p q : Rat} (h : p ≤ q) : lmin p q = p := by unfold lmin; grind
theorem rest_ge {p q : Rat} (h : q ≤ p) : restQ p q = p - q := by unfold restQ; grind
theorem rest_min (a b : Rat) : a - lmin a b = restQ a b := by unfold lmin restQ; grind
theorem lmax_ge {p q : Rat} (h : q ≤ p) : lmax p q = p := by unfold lmax; grind
theorem le_lmax1 (p q : Rat) : p ≤ lmax p q := by unfold lmax; grind
theorem le_lmax2 (p q : Rat) : q ≤ lmax p q := by unfold lmax; grind
theorem in_rest {D M : Nat} {p q : Rat} (h : In D M p) (g : In D M q) : In D M (restQ p q) := by
  unfold restQ
  split
  · exact In.zero
  · rename_i hlt
    exact h.sub g (Rat.le_of_lt (Rat.not_le.mp hlt))
theorem in_gmax {D M : Nat} {p q : Rat} (h : In D M p) (g : In D M q) : In D M (gmax p q) := by unfold gmax; split <;> assumption
theorem sz19 {X : Nat} {q : Rat} (h0 : 0 < X) (hX : X ≤ 2 ^ 330) (h : In X 4000000 q) : Sz 1900 q := (h.sz h0 hX (by decide : 4000000 ≤ 2 ^ 30)).mono (by decide)
theorem sz40 {X : Nat} {q : Rat} (h0 : 0 < X) (hX : X ≤ 2 ^ 330) (h : In X 4000000 q) : Sz 4000 q := (sz19 h0 hX h).mono (by decide)
theorem keepL {H H1 : Hp} {b : Bag} {l : Addr} {xs : List V} (hl : H l = some (.lst xs)) (e : Ext [b.a] H H1) (hne : b.a ≠ l) : H1 l = some (.lst xs) := e _ _ hl (by simpa using hne.symm)
section
variable {P : Program} {w : World} {K : PySem.W.Frag} {mg : Str → Option Value} {base : Heap} {f : Addr} {fd : FuncData}
def spPiece (K : PySem.W.Frag) : Sp := fun vs H Q _ => ∃ (b : Bag) (v : V) (q : Rat) (X : Nat), vs = [.ref b.a, v] ∧ BagAt K H b ∧ Am K H v q ∧ In X 1000000 q ∧ 0 < X ∧ X ≤ 2 ^ 330 ∧ ∀ u r H', Am K H' u r → 0 ≤ r → r ≤ q → In (X * 30) 1000000 r → BagAt K H' b → Ext [b.a] H H' → Q u H'
abbrev s_law_piece : Stmt := top 35
theorem c_law_piece : FnScope ["_law_bag_here", "_law_one", "_law_part_here"] ["_law_bag_here", "_law_one"] (defScope s_law_piece) := ⟨rfl, rfl, rfl, by decide +kernel, rfl, by decide +kernel, by decide +kernel⟩
theorem f_law_piece (F : FunD K "_law_piece" "_law_piece" (defArgs s_law_piece) (defBody s_law_piece) (defScope s_law_piece) [] [] f fd) (hm : mg "_law_piece" = some (.ref f)) (F_law_part : Fn P w K mg base 3 "_law_part" (spPart K)) : Fn P w K mg base 4 "_law_piece" (spPiece K) := by
  refine fn_def F hm c_law_piece (fun vs H Q E h => ?_) (fun _ _ _ _ _ _ us hl => match us, hl with | [_, _], _ => rfl) (fun cdv A outer s H vs Q E hr h => ?_)
  · obtain ⟨b, v, q, X, rfl, _⟩ := h
    rfl
  · obtain ⟨b, v, q, X, rfl, hb, av, iq, X0, X3, k⟩ := h
    have nd := c_law_piece.nd
    refine ⟨_, (pss_cons (ps_set (i := 2) nd rfl (by first | exact Or.inl rfl | exact Or.inr rfl) (pe_fn F_law_part (hr.mono (by decide)) (pa_cons (pv 0) (pa_cons (pv 1) pa_nil))))
      (pss_one (ps_ret (pe_ifExp (pt_cmpR op_lt (pe_ix ix_tup (pv 2) pe_int (fun _ _ => rfl)) (pe_op op_pow pe_int pe_int) (nomark _)) (pv 2) (pv 1))))), ?_⟩
    show (_ : TS) _ [some _, some _, none] _
    try dsimp only [cxOf, Cx.nox]
    walk_at "go"
    refine ⟨b, v, q, rfl, hb, av, iq.nn, sz40 X0 X3 (iq.most (by decide)), fun u r H1 au pq b1 n1 => ?_⟩
    obtain ⟨p0, p1⟩ := pq.le iq.nn
    have ir := pq.in_ iq
    have av1 := av.b hb n1
    obtain ⟨ap, rfl, hsq⟩ := id au
    walk_at "go"
    generalize (10 : Int) ^ Int.toNat 12 = B
    refine r_dec (fun hlt => ?_) (fun hlt => ?_)
    · walk_at "go"
      exact k _ r H1 au p0 p1 ir b1 n1
    · walk_at "go"
      exact k _ q H1 av1 iq.nn Rat.le_refl (iq.up (Nat.dvd_mul_right X 30)) b1 n1
/-- the buffer at bb, its size, what it holds and held at most; the law's own numbers in the list at l -/
def BAt (cB : Addr) (K : PySem.W.Frag) (H : Hp) (X : Nat) (l bb : Addr) (top q m : Rat) : Prop :=
  ∃ vh vm vt, H l = some (.lst [.ref bb, vh, vm, vt]) ∧ BufAt cB K H bb top q m ∧ Am K H vh q ∧ Am K H vm m ∧ Am K H vt top ∧ q ≤ top ∧ q ≤ m ∧ In X 1000000 q ∧ In X 1000000 m ∧ In X 1000000 top
def spLooks (cB : Addr) (K : PySem.W.Frag) : Sp := fun vs H Q _ => ∃ (X : Nat) (l bb : Addr) (top q m : Rat), vs = [.ref l] ∧ BAt cB K H X l bb top q m ∧ ∀ H', Ext [] H H' → Q (.bl true) H'
abbrev s_law_buffer_looks : Stmt := top 38
theorem c_law_buffer_looks : FnScope ["_law_side", "_law_told", "_law_here", "_law_most", "_law_top"] ["_law_side"] (defScope s_law_buffer_looks) := ⟨rfl, rfl, rfl, by decide +kernel, rfl, by decide +kernel, by decide +kernel⟩
theorem f_law_buffer_looks (F : FunD K "_law_buffer_looks" "_law_buffer_looks" (defArgs s_law_buffer_looks) (defBody s_law_buffer_looks) (defScope s_law_buffer_looks) [] [] f fd) (hm : mg "_law_buffer_looks" = some (.ref f)) {cB : Addr} (TBuffer : Ct K mg "Buffer" cB ["size", "_water", "_most"]) (PBuffer_held : Pr P w K mg base 1 cB "held" (spBufHeld cB K)) (PBuffer_fullest : Pr P w K mg base 1 cB "fullest" (spBufFullest cB K)) (F_law_same : Fn P w K mg base 4 "_law_same" (spLike K 4)) : Fn P w K mg base 5 "_law_buffer_looks" (spLooks cB K) := by
  refine fn_def F hm c_law_buffer_looks (fun vs H Q E h => ?_) (fun _ _ _ _ _ _ us hl => match us, hl with | [_], _ => rfl) (fun cdv A outer s H vs Q E hr h => ?_)
  · obtain ⟨X, l, bb, top, q, m, rfl, _⟩ := h
    rfl
  · obtain ⟨X, l, bb, top, q, m, rfl, ⟨vh, vm, vt, hl, hB, ah, am, at_, _⟩, k⟩ := h
    have nd := c_law_buffer_looks.nd
    refine ⟨_, (pss_cons (ps_asg (pe_tup (pa_cons (pe_ix ix_list (pv 0) pe_int (fun _ _ => rfl)) (pa_cons (pe_ix ix_list (pv 0) pe_int (fun _ _ => rfl)) (pa_cons (pe_ix ix_list (pv 0) pe_int (fun _ _ => rfl)) (pa_cons (pe_ix ix_list (pv 0) pe_int (fun _ _ => rfl)) pa_nil))))) (pg_tup rfl (pgs_cons (pg_name (i := 1) nd rfl (by first | exact Or.inl rfl | exact Or.inr rfl)) (pgs_cons (pg_name (i := 2) nd rfl (by first | exact Or.inl rfl | exact Or.inr rfl)) (pgs_cons (pg_name (i := 3) nd rfl (by first | exact Or.inl rfl | exact Or.inr rfl)) (pgs_cons (pg_name (i := 4) nd rfl (by first | exact Or.inl rfl | exact Or.inr rfl)) pgs_nil))))))
      (pss_one (ps_ret (pe_and (pe_fn F_law_same (hr.mono (by decide)) (pa_cons (pe_pr PBuffer_held (hr.mono (by decide)) (pv 1)) (pa_cons (pv 2) pa_nil))) (pe_and (pe_fn F_law_same (hr.mono (by decide)) (pa_cons (pe_pr PBuffer_fullest (hr.mono (by decide)) (pv 1)) (pa_cons (pv 3) pa_nil))) (pe_one (pe_fn F_law_same (hr.mono (by decide)) (pa_cons (pe_at TBuffer (by decide +kernel) (pv 1)) (pa_cons (pv 4) pa_nil))))))))), ?_⟩
    show (_ : TS) _ [some _, none, none, none, none] _
    try dsimp only [cxOf, Cx.nox]
    have hs : SqL K H l [.ref bb, vh, vm, vt] := .inl (.inl hl)
    walk_at "go"
    rename_i p hp
    have e1 : Ext [] H (upd H p (.tup [.ref bb, vh, vm, vt])) := Ext.refl.new hp
    generalize upd H p (.tup [.ref bb, vh, vm, vt]) = H1 at *
    have hB1 := hB.x0 e1
    obtain ⟨dx, vs, vq, vm2, ha1, _⟩ := id hB1
    walk_at "go"
    refine ⟨bb, top, q, m, rfl, hB1, fun v av => ?_⟩
    walk_at "go"
    refine k_like (av.eqd 2 (ah.x0 e1)) fun H2 e2 => ?_
    have hB2 := hB1.x0 e2
    obtain ⟨dx, vs, vq, vm2, ha2, _⟩ := id hB2
    walk_at "run"
    refine ⟨bb, top, q, m, rfl, hB2, fun v av => ?_⟩
    walk_at "run"
    refine k_like (av.eqd 2 ((am.x0 e1).x0 e2)) fun H3 e3 => ?_
    have hB3 := hB2.x0 e3
    obtain ⟨dx, vs, vq, vm2, ha3, as3, _⟩ := id hB3
    walk_at "run"
    refine k_like (as3.eqd 2 (((at_.x0 e1).x0 e2).x0 e3)) fun H4 e4 => ?_
    exact k _ (e1.trans (e2.trans (e3.trans e4)))
end
end Yk

set_option maxHeartbeats 4000000
namespace Yk
open PySem PySem.Spec PyProof.Rows L2

local macro_rules | `(tactic| walk_at "st") => `(tactic| first
  | with_reducible refine' r_tAt ?_
  | ((with_reducible refine' r_fld ?h1 ?h2 ?h3); (case h1 => first | assumption | exact upd_same); (case h2 => first | walk_at "lk" | rfl))
  | with_reducible refine' r_sAt ?_
  | ((with_reducible refine' r_putU ?h1 ?h2); (case h1 => (repeat refine putF_lt ?_); decide))
  | ((with_reducible refine' r_put ?h1 ?h2 ?h3); (case h1 => first | assumption | exact upd_same); (case h2 => (repeat refine putF_lt ?_); decide))
  | with_reducible refine' r_tMt ?_
  | ((with_reducible refine' r_met ?h1 ?h2 ?h3); (case h1 => first | assumption | exact upd_same); (case h2 => first | walk_at "lk" | rfl))
  | with_reducible refine' r_tCr ?_
  | with_reducible refine' r_tCrK ?_
  | with_reducible refine' r_chain ?_)
local macro_rules | `(tactic| walk_at "st") => `(tactic| first
  | with_reducible refine' r_dget ?_
  | with_reducible refine' r_dc ?_
  | with_reducible refine' r_iVals ?_
  | with_reducible refine' r_dnotin ?_
  | with_reducible refine' r_din ?_
  | with_reducible refine' r_iItems ?_
  | with_reducible refine' r_iKeysT ?_
  | with_reducible refine' r_tget1 ?_
  | with_reducible refine' r_tget2 ?_
  | with_reducible refine' r_dput ?_
  | with_reducible refine' r_tPr ?_
  | ((with_reducible refine' r_prp2 ?h1 ?h2); (case h1 => first | assumption | exact upd_same))
  | with_reducible refine' r_par3 ?_
  | ((with_reducible refine' r_dnT ?_); (intro np hnp))
  | ((with_reducible refine' r_dnK ?_); (intro np hnp)))
/-! A deed of a buffer. -/
local macro_rules | `(tactic| walk_at "lk") => `(tactic| first | with_reducible exact lk_Buf_size | with_reducible exact lk_Buf_water | with_reducible exact lk_Buf_most | exact lk_Buf_no (by decide +kernel) (by decide +kernel) (by decide +kernel))
theorem thousandth : (⟨1, 1000, by decide, by decide⟩ : Rat) = mkRat ((1 : Nat) : Int) 1000 := by decide +kernel
theorem Ext.mem2 {a x y : Addr} {H H1 : Hp} (e : Ext [a] H H1) : Ext [a, x, y] H H1 := e.mono fun z hz => by rw [List.mem_singleton.mp hz]; exact List.mem_cons_self
section
variable {P : Program} {w : World} {K : PySem.W.Frag} {mg : Str → Option Value} {base : Heap} {f : Addr} {fd : FuncData}
def spBufDeed (cB : Addr) (K : PySem.W.Frag) : Sp := fun vs H Q _ => ∃ (b : Bag) (X : Nat) (l bb : Addr) (top q m : Rat), vs = [.ref b.a, .ref l] ∧ BagAt K H b ∧ b.a ≠ l ∧ BAt cB K H X l bb top q m ∧ 0 < X ∧ X ≤ 2 ^ 320 ∧ 3000 ∣ X ∧
  ∀ H' q' m', Ext [b.a, l, bb] H H' → BagAt K H' b → BAt cB K H' (X * 30) l bb top q' m' → Q (.bl true) H'
/-- a list that begins with an object's place changes: the bag stays -/
def NI (H : Hp) (S : List Addr) : Prop := ∀ x ∈ S, (∀ xs, H x = some (.lst xs) → ∃ a r, xs = V.ref a :: r) ∧ ∀ o u, H x ≠ some (.frz o u)
theorem ni_lst {H : Hp} {l a : Addr} {r : List V} (h : H l = some (.lst (.ref a :: r))) : NI H [l] := fun x hx => by
  rw [List.mem_singleton.mp hx]
  exact ⟨fun xs z => by rw [h] at z; cases z; exact ⟨_, _, rfl⟩, fun o u z => by rw [h] at z; cases z⟩
theorem BagAt.side {K : PySem.W.Frag} {H H1 : Hp} {b : Bag} {S : List Addr} (h : BagAt K H b) (e : Ext S H H1) (h1 : b.a ∉ S) (h2 : NI H S) : BagAt K H1 b := by
  obtain ⟨l, g1, g2, g3, g4⟩ := h.ex
  refine ⟨l, e _ _ g1 h1, ?_, g3, g4⟩
  rcases g2 with (g2 | ⟨o, g2⟩) | g2
  · refine .inl (.inl (e _ _ g2 fun z => ?_))
    obtain ⟨a, r, q⟩ := (h2 _ z).1 _ g2
    exact ns_ne _ _ _ q
  · exact .inl (.inr ⟨o, e _ _ g2 fun z => (h2 _ z).2 _ _ g2⟩)
  · exact .inr g2
abbrev s_law_buffer_deed : Stmt := top 37
theorem c_law_buffer_deed : FnScope ["_law_bag_here", "_law_side", "_law_told", "_law_here", "_law_most", "_law_top", "_law_how", "_law_one", "_law_full", "_law_part_here"] ["_law_bag_here", "_law_side"] (defScope s_law_buffer_deed) := ⟨rfl, rfl, rfl, by decide +kernel, rfl, by decide +kernel, by decide +kernel⟩
theorem f_law_buffer_deed (F : FunD K "_law_buffer_deed" "_law_buffer_deed" (defArgs s_law_buffer_deed) (defBody s_law_buffer_deed) (defScope s_law_buffer_deed) [] [] f fd) (hm : mg "_law_buffer_deed" = some (.ref f)) {cB : Addr} (T : Bt mg) (TBuffer : Ct K mg "Buffer" cB ["size", "_water", "_most"]) (F_law_draw : Fn P w K mg base 1 "_law_draw" (spDraw K)) (F_law_of : Fn P w K mg base 2 "_law_of" (spOf K)) (F_law_some : Fn P w K mg base 3 "_law_some" (spSome K)) (F_law_sum : Fn P w K mg base 2 "_law_sum" (sp2 (fun _ _ => True) (· + ·) K)) (F_law_rest : Fn P w K mg base 2 "_law_rest" (sp2 (fun _ _ => True) restQ K)) (F_law_min : Fn P w K mg base 2 "_law_min" (sp2 (fun _ _ => True) lmin K)) (F_law_max : Fn P w K mg base 2 "_law_max" (sp2 (fun _ _ => True) gmax K)) (F_law_same : Fn P w K mg base 4 "_law_same" (spLike K 4)) (F_law_piece : Fn P w K mg base 4 "_law_piece" (spPiece K)) (F_law_short : Fn P w K mg base 6 "_law_short" (spShort cB K)) (MBuffer_take_in : Mt P w K mg base 4 cB "take_in" (spTakeIn cB K)) (MBuffer_give : Mt P w K mg base 3 cB "give" (spGive cB K)) (MBuffer_set_to : Mt P w K mg base 3 cB "set_to" (spSetTo cB K)) : Fn P w K mg base 7 "_law_buffer_deed" (spBufDeed cB K) := by
  refine fn_def F hm c_law_buffer_deed (fun vs H Q E h => ?_) (fun _ _ _ _ _ _ us hl => match us, hl with | [_, _], _ => rfl) (fun cdv A outer s H vs Q E hr h => ?_)
  · obtain ⟨b, X, l, bb, top, q, m, rfl, _⟩ := h
    rfl
  · obtain ⟨b, X, l, bb, top, q, m, rfl, hb, hbl, ⟨vh, vm, vt, hl, hB, ah, am, at_, qt, qm, iq, im, it⟩, X0, X3, X30, k⟩ := h
    have nd := c_law_buffer_deed.nd
    refine ⟨_, (pss_cons (ps_asg (pe_tup (pa_cons (pe_ix ix_list (pv 1) pe_int (fun _ _ => rfl)) (pa_cons (pe_ix ix_list (pv 1) pe_int (fun _ _ => rfl)) (pa_cons (pe_ix ix_list (pv 1) pe_int (fun _ _ => rfl)) (pa_cons (pe_ix ix_list (pv 1) pe_int (fun _ _ => rfl)) pa_nil))))) (pg_tup rfl (pgs_cons (pg_name (i := 2) nd rfl (by first | exact Or.inl rfl | exact Or.inr rfl)) (pgs_cons (pg_name (i := 3) nd rfl (by first | exact Or.inl rfl | exact Or.inr rfl)) (pgs_cons (pg_name (i := 4) nd rfl (by first | exact Or.inl rfl | exact Or.inr rfl)) (pgs_cons (pg_name (i := 5) nd rfl (by first | exact Or.inl rfl | exact Or.inr rfl)) pgs_nil))))))
      (pss_cons (ps_par (i := 6) (j := 7) (by rfl) nd rfl rfl (by decide) rfl rfl (pa_cons (pe_fn F_law_draw (hr.mono (by decide)) (pa_cons (pv 0) (pa_cons pe_int pa_nil))) (pa_cons (pe_fn F_law_of (hr.mono (by decide)) (pa_cons (pv 0) (pa_cons (pe_lst (pa_cons (pe_fn F_law_some (hr.mono (by decide)) (pa_cons (pv 0) (pa_cons pe_int pa_nil))) (pa_cons (pe_fn F_law_some (hr.mono (by decide)) (pa_cons (pv 0) (pa_cons pe_int pa_nil))) (pa_cons (pe_tup (pa_cons pe_int (pa_cons pe_int pa_nil))) (pa_cons (pe_fn F_law_rest (hr.mono (by decide)) (pa_cons (pv 5) (pa_cons (pv 3) pa_nil))) pa_nil))))) pa_nil))) pa_nil)) (by rfl))
      (pss_mid (ps_if (pt_cmpR op_lt (pv 6) pe_int (nomark _))
        (pss_cons (ps_set (i := 8) nd rfl (by first | exact Or.inl rfl | exact Or.inr rfl) (pe_fn F_law_sum (hr.mono (by decide)) (pa_cons (pv 3) (pa_cons (pv 7) pa_nil))))
        (pss_cons (ps_if (pt_not (pt_val (pe_fn F_law_same (hr.mono (by decide)) (pa_cons (pe_mt MBuffer_take_in (hr.mono (by decide)) (pv 2) (pa_cons (pv 7) pa_nil)) (pa_cons (pe_fn F_law_rest (hr.mono (by decide)) (pa_cons (pv 8) (pa_cons (pv 5) pa_nil))) pa_nil)))))
          (pss_one (ps_ret pe_bl))
          pss_nil)
        (pss_one (ps_asg (pe_fn F_law_min (hr.mono (by decide)) (pa_cons (pv 8) (pa_cons (pv 5) pa_nil))) (pg_sub (pv 1) pe_int set_list)))))
        (pss_one (ps_if (pt_cmpR op_eq (pv 6) pe_int (nomark _))
          (pss_cons (ps_set (i := 9) nd rfl (by first | exact Or.inl rfl | exact Or.inr rfl) (pe_fn F_law_piece (hr.mono (by decide)) (pa_cons (pv 0) (pa_cons (pv 3) pa_nil))))
          (pss_cons (ps_if (pt_cmpR op_notN (pe_mt MBuffer_give (hr.mono (by decide)) (pv 2) (pa_cons (pv 9) pa_nil)) pe_non (nomark _))
            (pss_one (ps_ret pe_bl))
            pss_nil)
          (pss_one (ps_asg (pe_fn F_law_rest (hr.mono (by decide)) (pa_cons (pv 3) (pa_cons (pv 9) pa_nil))) (pg_sub (pv 1) pe_int set_list)))))
          (pss_one (ps_if (pt_cmpR op_eq (pv 6) pe_int (nomark _))
            (pss_one (ps_if (pt_not (pt_val (pe_fn F_law_short (hr.mono (by decide)) (pa_cons (pv 2) (pa_cons (pe_fn F_law_sum (hr.mono (by decide)) (pa_cons (pv 3) (pa_cons (pe_fn F_law_max (hr.mono (by decide)) (pa_cons (pv 7) (pa_cons (pe_tup (pa_cons pe_int (pa_cons pe_int pa_nil))) pa_nil))) pa_nil))) pa_nil)))))
              (pss_one (ps_ret pe_bl))
              pss_nil))
            (pss_cons (ps_set (i := 9) nd rfl (by first | exact Or.inl rfl | exact Or.inr rfl) (pe_fn F_law_piece (hr.mono (by decide)) (pa_cons (pv 0) (pa_cons (pv 5) pa_nil))))
            (pss_cons (ps_if (pt_cmpR op_notN (pe_mt MBuffer_set_to (hr.mono (by decide)) (pv 2) (pa_cons (pv 9) pa_nil)) pe_non (nomark _))
              (pss_one (ps_ret pe_bl))
              pss_nil)
            (pss_one (ps_asg (pv 9) (pg_sub (pv 1) pe_int set_list))))))))))
      (pss_cons (ps_asg (pe_fn F_law_max (hr.mono (by decide)) (pa_cons (pv 4) (pa_cons (pe_ix ix_list (pv 1) pe_int (fun _ _ => rfl)) pa_nil))) (pg_sub (pv 1) pe_int set_list))
      (pss_one (ps_ret pe_bl)))))), ?_⟩
    show (_ : TS) _ [some _, some _, none, none, none, none, none, none, none, none] _
    try dsimp only [cxOf, Cx.nox]
    have hs : SqL K H l [.ref bb, vh, vm, vt] := .inl (.inl hl)
    have X33 : X ≤ 2 ^ 330 := Nat.le_trans X3 (by decide +kernel)
    have X3d : 30 ∣ X := Nat.dvd_trans (by decide) X30
    have up : ∀ {M : Nat} {r : Rat}, In X M r → In (X * 30) M r := fun h => h.up (Nat.dvd_mul_right X 30)
    have Y0 : 0 < X * 30 := by omega
    have Y3 : X * 30 ≤ 2 ^ 330 := Nat.le_trans (Nat.mul_le_mul_right 30 X3) (by decide +kernel)
    have s4 : ∀ {M : Nat} {r : Rat}, M ≤ 4000000 → In X M r → Sz 4000 r := fun h i => sz40 X0 X33 (i.most h)
    have t4 : ∀ {M : Nat} {r : Rat}, M ≤ 4000000 → In (X * 30) M r → Sz 4000 r := fun h i => sz40 Y0 Y3 (i.most h)
    walk_at "go"
    rename_i p hp
    have e1 : Ext [] H (upd H p (.tup [.ref bb, vh, vm, vt])) := Ext.refl.new hp
    generalize upd H p (.tup [.ref bb, vh, vm, vt]) = H1 at *
    have b1 := hb.x0 e1
    have hB1 := hB.x0 e1
    have hl1 := e1 _ _ hl fun z => nomatch z
    have ah1 := ah.x0 e1
    have am1 := am.x0 e1
    have at1 := at_.x0 e1
    walk_at "go"
    refine k_draw b1 (by decide) (by decide) fun how H2 l0 u0 b2 n2 => ?_
    walk_at "go"
    refine ⟨b, 9, rfl, b2, by decide, fun v3 q3 H3 a3 i3 b3 n3 => ?_⟩
    walk_at "go"
    refine ⟨b, 30, rfl, b3, by decide, fun v4 q4 H4 a4 i4 b4 n4 => ?_⟩
    walk_at "go"
    rename_i pz hpz
    have e5 : Ext [] H4 (upd H4 pz (.tup [.int 0, .int 1])) := Ext.refl.new hpz
    have az : Am K (upd H4 pz (.tup [.int 0, .int 1])) (.ref pz) 0 := ⟨pz, rfl, tupS⟩
    generalize upd H4 pz (.tup [.int 0, .int 1]) = H5 at *
    have at5 := (((at1.b b1 n2).b b2 n3).b b3 n4).x0 e5
    have ah5 := (((ah1.b b1 n2).b b2 n3).b b3 n4).x0 e5
    refine k_two at5 ah5 (s4 (by decide) it) (s4 (by decide) iq) it.nn iq.nn trivial fun v6 H6 e6 a6 => ?_
    walk_at "go"
    rename_i pl hpl
    have b6 := (b4.x0 e5).x0 e6
    have nbl : b.a ≠ pl := b6.ne hpl
    have e7 : Ext [] H6 (upd H6 pl (.lst [v3, v4, .ref pz, v6])) := Ext.refl.new hpl
    have hpl7 : SqL K (upd H6 pl (.lst [v3, v4, .ref pz, v6])) pl [v3, v4, .ref pz, v6] := lstS
    generalize upd H6 pl (.lst [v3, v4, .ref pz, v6]) = H7 at *
    have e567 := e5.trans (e6.trans e7)
    have as7 : Ams K H7 [v3, v4, .ref pz, v6] [q3, q4, 0, restQ top q] := Ams.cons ((a3.b b3 n4).x0 e567) (Ams.cons (a4.x0 e567) (Ams.cons ((az.x0 e6).x0 e7) (Ams.cons (a6.x0 e7) Ams.nil)))
    refine of_am (b6.x0 e7) hpl7 nbl as7 (show 0 < 4 by decide) (show 4 ≤ 4000 by decide) fun vo o H8 ho ao b8 n8 => ?_
    have io : In X 1000000 o := by
      simp only [List.mem_cons, List.not_mem_nil, or_false] at ho
      rcases ho with rfl | rfl | rfl | rfl
      · exact (i3.up X3d).most (by decide)
      · exact (i4.up X3d).most (by decide)
      · exact In.zero
      · exact in_rest it iq
    have n18 : Ext [b.a] H1 H8 := n2.trans (n3.trans (n4.trans (e567.of0.trans n8)))
    have hB8 := hB1.b b1 n18
    have hl8 := keepL hl1 n18 hbl
    have ah8 := ah1.b b1 n18
    have am8 := am1.b b1 n18
    have at8 := at1.b b1 n18
    have e08 : Ext [b.a] H H8 := e1.of0.trans n18
    clear as7 a6 ah5 at5 az a3 a4 hpl7 hB hB1 ah1 am1 at1 ah am at_
    walk_at "go"
    refine r_mid (fun σ' H' => ∃ (vh' : V) (q' : Rat) (u8 u9 : Option V), σ' = [some (.ref b.a), some (.ref l), some (.ref bb), some vh, some vm, some vt, some (.int how), some vo, u8, u9] ∧ BagAt K H' b ∧ Ext [b.a, l, bb] H H' ∧ H' l = some (.lst [.ref bb, vh', vm, vt]) ∧ BufAt cB K H' bb top q' (lmax m q') ∧ Am K H' vh' q' ∧ Am K H' vm m ∧ Am K H' vt top ∧ q' ≤ top ∧ In (X * 30) 1000000 q') ?_ ?_
    · have fin : ∀ {H9 : Hp} {S : List Addr} {vh' : V} {q' : Rat} {u8 u9 : Option V}, Ext [b.a, bb] H8 H9 → BagAt K H9 b → BufAt cB K H9 bb top q' (lmax m q') → Am K H9 vh' q' → Am K H9 vm m → Am K H9 vt top → q' ≤ top → In (X * 30) 1000000 q' → H9 l = some (.lst [.ref bb, vh, vm, vt]) →
        ∀ H10, H10 l = some (.lst [.ref bb, vh', vm, vt]) → Ext [l] H9 H10 → ∃ (vh'' : V) (q'' : Rat) (w8 w9 : Option V), [some (V.ref b.a), some (V.ref l), some (V.ref bb), some vh, some vm, some vt, some (V.int how), some vo, u8, u9] = [some (.ref b.a), some (.ref l), some (.ref bb), some vh, some vm, some vt, some (.int how), some vo, w8, w9] ∧ BagAt K H10 b ∧ Ext [b.a, l, bb] H H10 ∧ H10 l = some (.lst [.ref bb, vh'', vm, vt]) ∧ BufAt cB K H10 bb top q'' (lmax m q'') ∧ Am K H10 vh'' q'' ∧ Am K H10 vm m ∧ Am K H10 vt top ∧ q'' ≤ top ∧ In (X * 30) 1000000 q'' := by
        intro H9 S vh' q' u8 u9 g1 g2 g3 g4 g5 g6 g7 g8 g9 H10 g10 g11
        have nt := no_lst g9
        have nbb : bb ∉ [l] := fun z => by
          obtain ⟨dx, fs, hi⟩ := g3.ins
          rw [List.mem_singleton.mp z, g9] at hi
          cases hi
        refine ⟨vh', q', u8, u9, rfl, g2.side g11 (by simpa using hbl) (ni_lst g9), ?_, g10, g3.f g11 nbb nt, g4.f g11 nt, g5.f g11 nt, g6.f g11 nt, g7, g8⟩
        have e1' : Ext [b.a, l, bb] H H8 := e08.mem2
        exact e1'.trans ((g1.mono (by intro z hz; simp only [List.mem_cons, List.not_mem_nil, or_false] at hz ⊢; rcases hz with z | z <;> simp [z])).trans (g11.mono (by intro z hz; rw [List.mem_singleton.mp hz]; simp)))
      have bbX : ∀ {H9 H10 : Hp}, Ext [bb] H9 H10 → Ext [b.a, bb] H9 H10 := fun e => e.mono (by intro z hz; rw [List.mem_singleton.mp hz]; simp)
      obtain ⟨dxb, fsb, hib⟩ := hB8.ins
      have lbb : l ≠ bb := fun z => by rw [z, hib] at hl8; cases hl8
      have bbb : b.a ≠ bb := fun z => by
        obtain ⟨l2, h2⟩ := b8.lst
        rw [z, hib] at h2
        cases h2
      walk_at "go"
      refine r_dec (fun h3 => ?_) (fun h3 => ?_)
      · walk_at "go"
        refine k_two ah8 ao (s4 (by decide) iq) (s4 (by decide) io) iq.nn io.nn trivial fun vf H9 e9 af => ?_
        have iF : In X 2000000 (q + o) := iq.add io
        have hB9 := hB8.x0 e9
        obtain ⟨dx9, vs9, vq9, vm9, hi9, _⟩ := id hB9
        walk_at "go"
        refine ⟨bb, vo, top, q, m, o, rfl, hB9, ao.x0 e9, sz19 X0 X33 (it.most (by decide)), sz19 X0 X33 (iq.most (by decide)), sz19 X0 X33 (im.most (by decide)), sz19 X0 X33 (io.most (by decide)), fun u H10 e10 hB10 au => ?_⟩
        rw [rest_min] at au
        obtain ⟨nt, nl⟩ := no_ins hi9
        have af10 := af.f e10 nt
        have at10 := (at8.x0 e9).f e10 nt
        walk_at "go"
        refine k_two af10 at10 (s4 (by decide) iF) (s4 (by decide) it) iF.nn it.nn trivial fun v11 H11 e11 a11 => ?_
        walk_at "go"
        refine k_like ((au.x0 e11).eqd 2 a11) fun H12 e12 => ?_
        walk_at "run"
        refine k_two ((af10.x0 e11).x0 e12) ((at10.x0 e11).x0 e12) (s4 (by decide) iF) (s4 (by decide) it) iF.nn it.nn trivial fun v13 H13 e13 a13 => ?_
        have e1013 := e11.trans (e12.trans e13)
        have l13 : H13 l = some (.lst [.ref bb, vh, vm, vt]) := e1013 _ _ (e10 _ _ (e9 _ _ hl8 fun z => nomatch z) (by simpa using lbb)) fun z => nomatch z
        have b13 : BagAt K H13 b := (((b8.x0 e9).f e10 nl).x0 e1013)
        walk_at "go"
        refine r_setB (K := K) l13 rfl _ rfl (fun H14 hl14 e14 c14 => ?_)
        exact fin (S := []) (bbX (e9.of0.trans (e10.trans e1013.of0))) b13 (hB10.x0 e1013) a13 (((am8.x0 e9).f e10 nt).x0 e1013) (at10.x0 e1013) (lmin_le2 _ _) (up (iF.lmin it)) l13 H14 hl14 e14
      · walk_at "go"
        refine r_dec (fun h4 => ?_) (fun h4 => ?_)
        · walk_at "go"
          refine ⟨b, vh, q, X, rfl, b8, ah8, iq, X0, X33, fun u r H9 au r0 r1 ir b9 n9 => ?_⟩
          have hB9 := hB8.b b8 n9
          obtain ⟨dx9, vs9, vq9, vm9, hi9, _⟩ := id hB9
          walk_at "go"
          refine ⟨bb, u, top, q, m, r, rfl, hB9, au, r1, s4 (by decide) iq, t4 (by decide) ir, fun H10 e10 hB10 => ?_⟩
          obtain ⟨nt, nl⟩ := no_ins hi9
          walk_at "run"
          refine k_two ((ah8.b b8 n9).f e10 nt) (au.f e10 nt) (s4 (by decide) iq) (t4 (by decide) ir) iq.nn ir.nn trivial fun v11 H11 e11 a11 => ?_
          rw [rest_ge r1] at a11
          have l11 : H11 l = some (.lst [.ref bb, vh, vm, vt]) := e11 _ _ (e10 _ _ (keepL hl8 n9 hbl) (by simpa using lbb)) fun z => nomatch z
          have ir2 : In (X * 30) 1000000 (q - r) := (up iq).sub ir r1
          have hle : q - r ≤ m := by have := ir.nn; grind
          have hB11 := hB10.x0 e11
          rw [← lmax_ge hle] at hB11
          walk_at "go"
          refine r_setB (K := K) l11 rfl _ rfl (fun H14 hl14 e14 c14 => ?_)
          exact fin (S := []) ((n9.mono (by intro z hz; rw [List.mem_singleton.mp hz]; simp)).trans (bbX (e10.trans e11.of0))) ((b9.f e10 nl).x0 e11) hB11 a11 (((am8.b b8 n9).f e10 nt).x0 e11) (((at8.b b8 n9).f e10 nt).x0 e11) (by have := ir.nn; grind) ir2 l11 H14 hl14 e14
        · walk_at "go"
          refine r_dec (fun h5 => ?_) (fun h5 => ?_)
          · walk_at "go"
            rename_i pt hpt
            have e9 : Ext [] H8 (upd H8 pt (.tup [.int 1, .int 1000])) := Ext.refl.new hpt
            have a9 : Am K (upd H8 pt (.tup [.int 1, .int 1000])) (.ref pt) (mkRat ((1 : Nat) : Int) 1000) := by rw [← thousandth]; exact am_lit _ _ tupS
            have i9 : In X 1 (mkRat ((1 : Nat) : Int) 1000) := (In.frac (D := 3000) (M := 1) (n := 1) (d := 1000) (by decide) (by decide) (by decide)).up X30
            have p9 : (0 : Rat) < mkRat ((1 : Nat) : Int) 1000 := by decide +kernel
            generalize upd H8 pt (.tup [.int 1, .int 1000]) = H9 at *
            generalize mkRat ((1 : Nat) : Int) 1000 = sm at *
            refine k_two (ao.x0 e9) a9 (s4 (by decide) io) (s4 (by decide) i9) io.nn i9.nn trivial fun v10 H10 e10 a10 => ?_
            have i10 : In X 1000000 (gmax o sm) := in_gmax io (i9.most (by decide))
            have g10 : 0 < gmax o sm := by unfold gmax; split <;> grind
            generalize gmax o sm = g at *
            walk_at "go"
            refine k_two ((ah8.x0 e9).x0 e10) a10 (s4 (by decide) iq) (s4 (by decide) i10) iq.nn i10.nn trivial fun v11 H11 e11 a11 => ?_
            have e811 := e9.trans (e10.trans e11)
            walk_at "go"
            refine ⟨bb, v11, top, q, m, q + g, rfl, hB8.x0 e811, a11, by grind, s4 (by decide) iq, s4 (by decide) (iq.add i10), fun H12 e12 => ?_⟩
            have e812 := e811.trans e12
            have hB12 := hB8.x0 e812
            rw [← lmax_ge qm] at hB12
            walk_at "run"
            exact ⟨vh, q, _, _, rfl, b8.x0 e812, e08.mem2.trans (e812.of0), e812 _ _ hl8 (fun z => nomatch z), hB12, ah8.x0 e812, am8.x0 e812, at8.x0 e812, qt, up iq⟩
          · walk_at "go"
            refine ⟨b, vt, top, X, rfl, b8, at8, it, X0, X33, fun u r H9 au r0 r1 ir b9 n9 => ?_⟩
            have hB9 := hB8.b b8 n9
            obtain ⟨dx9, vs9, vq9, vm9, hi9, _⟩ := id hB9
            walk_at "go"
            refine ⟨bb, u, top, q, m, r, rfl, hB9, au, s4 (by decide) im, t4 (by decide) ir, fun H10 e10 hB10 => ?_⟩
            obtain ⟨nt, nl⟩ := no_ins hi9
            have l10 : H10 l = some (.lst [.ref bb, vh, vm, vt]) := e10 _ _ (keepL hl8 n9 hbl) (by simpa using lbb)
            walk_at "run"
            refine r_setB (K := K) l10 rfl _ rfl (fun H14 hl14 e14 c14 => ?_)
            exact fin (S := []) ((n9.mono (by intro z hz; rw [List.mem_singleton.mp hz]; simp)).trans (bbX e10)) (b9.f e10 nl) hB10 (au.f e10 nt) ((am8.b b8 n9).f e10 nt) ((at8.b b8 n9).f e10 nt) r1 ir l10 H14 hl14 e14
    · rintro σ' H9 ⟨vh', q', u8, u9, rfl, b9, e9, hl9, hB9, ah9, am9, at9, q9, i9⟩
      have hs9 : SqL K H9 l [.ref bb, vh', vm, vt] := .inl (.inl hl9)
      have im9 : In (X * 30) 1000000 m := up im
      walk_at "go"
      refine k_two am9 ah9 (t4 (by decide) im9) (t4 (by decide) i9) im9.nn i9.nn trivial fun v10 H10 e10 a10 => ?_
      rw [gmax_eq] at a10
      have hl10 := e10 _ _ hl9 fun z => nomatch z
      have hB10 := hB9.x0 e10
      walk_at "go"
      refine r_setB (K := K) hl10 rfl _ rfl (fun H11 hl11 e11 c11 => ?_)
      have nt := no_lst hl10
      have nbb : bb ∉ [l] := fun z => by
        obtain ⟨dx, fs, hi⟩ := hB10.ins
        rw [List.mem_singleton.mp z, hl10] at hi
        cases hi
      walk_at "go"
      refine k H11 q' (lmax m q') (e9.trans (e10.of0.trans (e11.mono (by intro z hz; rw [List.mem_singleton.mp hz]; simp)))) ((b9.x0 e10).side e11 (by simpa using hbl) (ni_lst hl10)) ⟨vh', v10, vt, hl11, hB10.f e11 nbb nt, (ah9.x0 e10).f e11 nt, a10.f e11 nt, (at9.x0 e10).f e11 nt, q9, le_lmax2 _ _, i9, ?_, up it⟩
      exact im9.lmax i9
end
end Yk

set_option maxHeartbeats 4000000
namespace Yk
open PySem PySem.Spec PyProof.Rows L2

local macro_rules | `(tactic| walk_at "st") => `(tactic| first
  | with_reducible refine' r_tAt ?_
  | ((with_reducible refine' r_fld ?h1 ?h2 ?h3); (case h1 => first | assumption | exact upd_same); (case h2 => first | walk_at "lk" | rfl))
  | with_reducible refine' r_sAt ?_
  | ((with_reducible refine' r_putU ?h1 ?h2); (case h1 => (repeat refine putF_lt ?_); decide))
  | ((with_reducible refine' r_put ?h1 ?h2 ?h3); (case h1 => first | assumption | exact upd_same); (case h2 => (repeat refine putF_lt ?_); decide))
  | with_reducible refine' r_tMt ?_
  | ((with_reducible refine' r_met ?h1 ?h2 ?h3); (case h1 => first | assumption | exact upd_same); (case h2 => first | walk_at "lk" | rfl))
  | with_reducible refine' r_tCr ?_
  | with_reducible refine' r_tCrK ?_
  | with_reducible refine' r_chain ?_)
local macro_rules | `(tactic| walk_at "st") => `(tactic| first
  | with_reducible refine' r_dget ?_
  | with_reducible refine' r_dc ?_
  | with_reducible refine' r_iVals ?_
  | with_reducible refine' r_dnotin ?_
  | with_reducible refine' r_din ?_
  | with_reducible refine' r_iItems ?_
  | with_reducible refine' r_iKeysT ?_
  | with_reducible refine' r_tget1 ?_
  | with_reducible refine' r_tget2 ?_
  | with_reducible refine' r_dput ?_
  | with_reducible refine' r_tPr ?_
  | ((with_reducible refine' r_prp2 ?h1 ?h2); (case h1 => first | assumption | exact upd_same))
  | with_reducible refine' r_par3 ?_
  | ((with_reducible refine' r_dnT ?_); (intro np hnp))
  | ((with_reducible refine' r_dnK ?_); (intro np hnp)))
/-! A wire, a hop beside the law's own tables. -/
local macro_rules | `(tactic| walk_at "lk") => `(tactic| first | with_reducible exact lk_Wire_way | with_reducible exact lk_Wire_sent | with_reducible exact lk_Hop_way | with_reducible exact lk_Hop_age | with_reducible exact lk_Hop_sent | exact lk_Wire_no (by decide +kernel) (by decide +kernel) | exact lk_Hop_no (by decide +kernel) (by decide +kernel) (by decide +kernel))
theorem TabAt.gd {K : PySem.W.Frag} {H : Hp} {t : Addr} {c : List (Int × Rat)} (h : TabAt K H t c) (k : Int) {z : V} (hz : Am K H z 0) : ∃ l, H t = some (.dK l) ∧ Am K H ((valV l (.inl k)).getD z) ((gv c k).getD 0) := by
  obtain ⟨l, h1, h2⟩ := h
  exact ⟨l, h1, h2.gd k hz⟩
section
variable {P : Program} {w : World} {K : PySem.W.Frag} {mg : Str → Option Value} {base : Heap} {f : Addr} {fd : FuncData}
def spWireDeed (cW : Addr) (K : PySem.W.Frag) : Sp := fun vs H Q _ => ∃ (b : Bag) (t aw tb d : Addr) (way : Nat) (c : List (Int × Rat)), vs = [.ref b.a, .ref t] ∧ BagAt K H b ∧ SqT K H t [.ref aw, .ref tb, .int (way : Int)] ∧ WireAt cW K H d aw (way : Int) c ∧ TabAt K H tb c ∧ ND c ∧ (∀ p ∈ c, In 30 30 p.2) ∧ c.length ≤ 60 ∧ 1 ≤ way ∧ way ≤ 20 ∧ d ≠ tb ∧
  ∀ H' c', Ext [b.a, d, tb] H H' → BagAt K H' b → WireAt cW K H' d aw (way : Int) c' → TabAt K H' tb c' → ND c' → (∀ p ∈ c', In 30 30 p.2) → c'.length ≤ c.length + 1 → Q (.bl true) H'
abbrev s_law_wire_deed : Stmt := top 34
theorem c_law_wire_deed : FnScope ["_law_bag_here", "_law_side", "_law_wire", "_law_table", "_law_way_of", "_law_at", "_law_one", "_law_k", "_law_now_of", "_law_due", "_law_key"] ["_law_bag_here", "_law_side"] (defScope s_law_wire_deed) := ⟨rfl, rfl, rfl, by decide +kernel, rfl, by decide +kernel, by decide +kernel⟩
theorem f_law_wire_deed (F : FunD K "_law_wire_deed" "_law_wire_deed" (defArgs s_law_wire_deed) (defBody s_law_wire_deed) (defScope s_law_wire_deed) [] [] f fd) (hm : mg "_law_wire_deed" = some (.ref f)) {cW : Addr} (T : Bt mg) (TWire : Ct K mg "Wire" cW ["_way", "_sent"]) (F_law_draw : Fn P w K mg base 1 "_law_draw" (spDraw K)) (F_law_some : Fn P w K mg base 3 "_law_some" (spSome K)) (F_law_all : Fn P w K mg base 3 "_law_all" (spLAll K)) (F_law_same : Fn P w K mg base 4 "_law_same" (spLike K 4)) (MWire_put : Mt P w K mg base 1 cW "put" (spPut cW K)) (MWire_arriving : Mt P w K mg base 1 cW "arriving" (spArriving cW K)) (MWire_under_way : Mt P w K mg base 3 cW "under_way" (spUnderWay cW K)) : Fn P w K mg base 5 "_law_wire_deed" (spWireDeed cW K) := by
  refine fn_def F hm c_law_wire_deed (fun vs H Q E h => ?_) (fun _ _ _ _ _ _ us hl => match us, hl with | [_, _], _ => rfl) (fun cdv A outer s H vs Q E hr h => ?_)
  · obtain ⟨b, t, aw, tb, d, way, c, rfl, _⟩ := h
    rfl
  · obtain ⟨b, t, aw, tb, d, way, c, rfl, hb, ht, hW, hT, nd0, hin, l60, w1, w20, hdt, k⟩ := h
    have nd := c_law_wire_deed.nd
    refine ⟨_, (pss_cons (ps_asg (pv 1) (pg_tup rfl (pgs_cons (pg_name (i := 2) nd rfl (by first | exact Or.inl rfl | exact Or.inr rfl)) (pgs_cons (pg_name (i := 3) nd rfl (by first | exact Or.inl rfl | exact Or.inr rfl)) (pgs_cons (pg_name (i := 4) nd rfl (by first | exact Or.inl rfl | exact Or.inr rfl)) pgs_nil)))))
      (pss_cons (ps_par (i := 5) (j := 6) (by rfl) nd rfl rfl (by decide) rfl rfl (pa_cons (pe_op op_sub (pe_fn F_law_draw (hr.mono (by decide)) (pa_cons (pv 0) (pa_cons pe_int pa_nil))) (pv 4)) (pa_cons (pe_fn F_law_some (hr.mono (by decide)) (pa_cons (pv 0) (pa_cons pe_int pa_nil))) pa_nil)) (by rfl))
      (pss_mid (ps_if (pt_cmpR op_gt (pe_fn F_law_draw (hr.mono (by decide)) (pa_cons (pv 0) (pa_cons pe_int pa_nil))) pe_int (nomark _))
        (pss_cons (ps_if (pt_cmpR op_notN (pe_mt MWire_put (hr.mono (by decide)) (pv 2) (pa_cons (pv 5) (pa_cons (pv 6) pa_nil))) pe_non (nomark _))
          (pss_one (ps_ret pe_bl))
          pss_nil)
        (pss_one (ps_dput (hu_of hr) (pv 3) (pv 5) (pv 6) (by rfl))))
        pss_nil)
      (pss_cons (ps_for PassesOwn.never rfl (pi_range1 rfl T.range (pa_cons pe_int pa_nil)) (pg_name (i := 7) nd rfl (by first | exact Or.inl rfl | exact Or.inr rfl))
        (pss_cons (ps_set (i := 8) nd rfl (by first | exact Or.inl rfl | exact Or.inr rfl) (pe_op op_sub (pe_op op_add (pv 5) (pe_fn F_law_draw (hr.mono (by decide)) (pa_cons (pv 0) (pa_cons (pe_op op_add (pe_op op_mul pe_int (pv 4)) pe_int) pa_nil)))) pe_int))
        (pss_cons (ps_if (pt_not (pt_val (pe_fn F_law_same (hr.mono (by decide)) (pa_cons (pe_mt MWire_arriving (hr.mono (by decide)) (pv 2) (pa_cons (pv 8) pa_nil)) (pa_cons (pe_dget2 (hu_of hr) (pv 3) (pe_op op_sub (pv 8) (pv 4)) (pe_tup (pa_cons pe_int (pa_cons pe_int pa_nil))) ⟨by rfl, by rfl, by rfl, by rfl⟩) pa_nil)))))
          (pss_one (ps_ret pe_bl))
          pss_nil)
        (pss_cons (ps_set (i := 9) nd rfl (by first | exact Or.inl rfl | exact Or.inr rfl) (pe_fn F_law_all (hr.mono (by decide)) (pa_cons (pe_lock (pe_lc (own := [("_law_key", 10)]) (g := gName 10) rfl nd (pi_keys (pv 3)) (blkOk_by (N := ["_law_bag_here", "_law_side", "_law_wire", "_law_table", "_law_way_of", "_law_at", "_law_one", "_law_k", "_law_now_of", "_law_due", "_law_key"]) (sc := defScope s_law_wire_deed) (by decide +kernel)) (fun _ _ _ _ _ => pg_name (i := 10) nd rfl (Or.inl rfl)) (fun _ _ _ _ _ => (pts_one (pt_chain op_lt op_le (pe_op op_sub (pv 8) (pv 4)) (pv 10) (pv 8)))) (fun _ _ _ _ _ => (pe_dget (hu_of hr) (pv 3) (pv 10) (fun _ _ => rfl) : PE _ _ (tDGet _ _))))) pa_nil)))
        (pss_one (ps_if (pt_not (pt_val (pe_fn F_law_same (hr.mono (by decide)) (pa_cons (pe_mt MWire_under_way (hr.mono (by decide)) (pv 2) (pa_cons (pv 8) pa_nil)) (pa_cons (pv 9) pa_nil)))))
          (pss_one (ps_ret pe_bl))
          pss_nil))))))
      (pss_one (ps_ret pe_bl)))))), ?_⟩
    show (_ : TS) _ [some _, some _, none, none, none, none, none, none, none, none, none] _
    try dsimp only [cxOf, Cx.nox]
    have M4 : ∀ {n : Nat}, n ≤ 4000 → n * 30 ≤ 2 ^ 400 := fun h => Nat.le_trans (Nat.mul_le_mul_right 30 h) (by decide +kernel)
    walk_at "go"
    refine k_draw hb (by decide) (by decide) fun x H1 l0 u0 b1 n1 => ?_
    walk_at "go"
    refine ⟨b, 30, rfl, b1, by decide, fun vo o H2 ao io b2 n2 => ?_⟩
    have n02 := n1.trans n2
    have hW2 := hW.b hb n02
    have hT2 := hT.b hb n02
    obtain ⟨tick, etick⟩ : ∃ z, z = x - (way : Int) := ⟨_, rfl⟩
    rw [← etick]
    walk_at "go"
    refine r_mid (fun σ' H' => ∃ (c' : List (Int × Rat)), σ' = [some (.ref b.a), some (.ref t), some (.ref aw), some (.ref tb), some (.int (way : Int)), some (.int tick), some vo, none, none, none, none] ∧ BagAt K H' b ∧ Ext [b.a, d, tb] H H' ∧ WireAt cW K H' d aw (way : Int) c' ∧ TabAt K H' tb c' ∧ ND c' ∧ (∀ p ∈ c', In 30 30 p.2) ∧ c'.length ≤ c.length + 1) ?_ ?_
    · walk_at "go"
      refine k_draw b2 (by decide) (by decide) fun x3 H3 l3 u3 b3 n3 => ?_
      have hW3 := hW2.b b2 n3
      have hT3 := hT2.b b2 n3
      have ao3 := ao.b b2 n3
      obtain ⟨dx3, hi3⟩ := hW3.ins
      obtain ⟨lw, hw3⟩ := hW3.dk
      obtain ⟨lt, htb3, _⟩ := id hT3
      have n03 : Ext [b.a, d, tb] H H3 := Ext.mem2 (n02.trans n3)
      walk_at "go"
      refine r_dec (fun hp => ?_) (fun hp => ?_)
      · walk_at "go"
        refine ⟨d, aw, (way : Int), c, tick, vo, o, rfl, hW3, by omega, ao3, fun H4 e4 hW4 => ?_⟩
        have nt4 := (no_dk hw3).1
        have hT4 : TabAt K H4 tb c := hT3.f e4 fun y hy => by
          rw [List.mem_singleton.mp hy]
          exact ⟨hdt, _, hw3, (fun _ z => nomatch z), fun _ _ z => nomatch z⟩
        have b4 : BagAt K H4 b := b3.f e4 (no_dk hw3).2
        obtain ⟨l4, hl4, ln4, hT5⟩ := hT4.put (k := tick) (ao3.f e4 nt4)
        walk_at "run"
        refine ⟨tb, _, rfl, DPut.k (k := .inl tick) hl4 (Nat.lt_of_le_of_lt (by omega : l4.length ≤ 4000) (by decide)), ?_⟩
        have e5 : Ext [tb] H4 (upd H4 tb (.dK (putK l4 (.inl tick) vo))) := Ext.refl.at_ List.mem_cons_self
        have nt5 := no_dk hl4
        obtain ⟨dx4, hi4⟩ := hW4.ins
        have hW5 : WireAt cW K (upd H4 tb (.dK (putK l4 (.inl tick) vo))) d aw (way : Int) (gp c tick o) := hW4.f e5 (by intro z; rw [List.mem_singleton.mp z, hl4] at hi4; cases hi4) (by simpa using hdt) nt5.1
        exact ⟨gp c tick o, rfl, b4.f e5 nt5.2, n03.trans ((e4.mono (by intro z hz; rw [List.mem_singleton.mp hz]; simp)).trans (e5.mono (by intro z hz; rw [List.mem_singleton.mp hz]; simp))), hW5, hT5, nd_gp nd0 _ _, fun p hp => (gp_mem hp).elim (fun q => by rw [q]; exact io) (hin p), gp_len _ _ _⟩
      · walk_at "go"
        exact ⟨c, rfl, b3, n03, hW3, hT3, nd0, hin, by omega⟩
    · rintro σ' H3 ⟨c', rfl, b3, e3, hW3, hT3, nd3, hin3, l3⟩
      walk_at "go"
      refine r_for ?_
      walk_at "go"
      refine ⟨_, rfl, by decide, by decide, ?_⟩
      have b00 := b3
      refine r_loopR (fun j σ' H' => ∃ (u7 u8 u9 u10 : Option V), σ' = [some (.ref b.a), some (.ref t), some (.ref aw), some (.ref tb), some (.int (way : Int)), some (.int tick), some vo, u7, u8, u9, u10] ∧ BagAt K H' b ∧ Ext [b.a] H3 H') ⟨_, _, _, _, rfl, b3, Ext.refl⟩ ?_ ?_
      · rintro j σ' H4 hj ⟨u7, u8, u9, u10, rfl, b4, e4⟩
        have cm : CMul 2 (way : Int) := Or.inl ⟨by decide, by decide⟩
        walk_at "go"
        refine k_draw b4 (by omega) (Int.lt_of_le_of_lt (by omega : 2 * (way : Int) + 4 ≤ 44) (by decide)) fun x5 H5 l5 u5 b5 n5 => ?_
        have e35 := e4.trans n5
        have hW5 := hW3.b b3 e35
        have hT5 := hT3.b b3 e35
        obtain ⟨dx5, hi5⟩ := hW5.ins
        obtain ⟨now, enow⟩ : ∃ z, z = tick + x5 - 2 := ⟨_, rfl⟩
        walk_at "go"
        rw [← enow]
        have hlo : -1000000 ≤ now ∧ now ≤ 1000000 := by omega
        walk_at "go"
        refine ⟨d, aw, (way : Int), c', now, rfl, hW5, fun v6 a6 => ?_⟩
        obtain ⟨lt5, htb5, itt5⟩ := id hT5
        walk_at "go"
        refine ⟨tb, rfl, .inl ⟨lt5, .inl htb5⟩, ?_⟩
        walk_at "go"
        rename_i pz hpz
        have e6 : Ext [] H5 (upd H5 pz (.tup [.int 0, .int 1])) := Ext.refl.new hpz
        have az : Am K (upd H5 pz (.tup [.int 0, .int 1])) (.ref pz) 0 := ⟨pz, rfl, tupS⟩
        have htb6 := e6 _ _ htb5 fun z => nomatch z
        generalize upd H5 pz (.tup [.int 0, .int 1]) = H6 at *
        refine ⟨_, DGet.k (k := .inl (now - (way : Int))) htb6, ?_⟩
        have hg := ((hT5.x0 e6).gd (now - (way : Int)) az)
        obtain ⟨lt6, h6, ag⟩ := hg
        rw [htb6] at h6
        cases h6
        walk_at "go"
        refine k_like ((a6.x0 e6).eqd 2 ag) fun H7 e7 => ?_
        have e57 := e6.trans e7
        have hT7 := hT5.x0 e57
        have hW7 := hW5.x0 e57
        obtain ⟨dx7, hi7⟩ := hW7.ins
        obtain ⟨l, hd, hl⟩ := id hT7
        walk_at "run"
        refine r_lockE hd fun od => ?_
        have E0 : Ext [tb] H7 (upd H7 tb (.frz od (.dK l))) := Ext.refl.at_ List.mem_cons_self
        walk_at "go"
        refine ⟨tb, od, rfl, .inl ⟨l, upd_same, fun D hD => ?_⟩⟩
        have hdD : tb ≠ D := fun q => by rw [q, upd_same] at hD; cases hD
        have hD0 : H7 D = none := by rw [upd_ne hdD.symm] at hD; exact hD
        refine r_lcK (kv := l) (fun i H1 => ∃ acc, H1 D = some (.lst acc) ∧ Ams K H7 acc (win (c'.take i) (now - (way : Int)) (now + 1)) ∧ Ext [tb] H7 H1 ∧ H1 tb = some (.frz od (.dK l))) ⟨[], upd_same, Ams.nil, E0.new hD, by rw [upd_ne hdD]; exact upd_same⟩ ?_ ?_ ?_
        · rintro i H1 _ ⟨_, _, _, _, p⟩
          exact p
        · rintro i ky y0 H1 hx ⟨acc, g1, g3, e1, g2⟩
          obtain ⟨n, y, rfl, hn, hy⟩ := hl.get hx
          have lac : acc.length < sizeLine := by
            refine Nat.lt_of_le_of_lt ?_ (by decide : 4000 < sizeLine)
            rw [g3.1]
            refine Nat.le_trans win_len ?_
            rw [List.length_take]
            omega
          rw [win_take hn, show kV (.inl n) = V.int n from rfl]
          walk_at "go"
          refine ⟨rfl, ?_⟩
          walk_at "go"
          refine r_dec (fun h1 => ?_) (fun h1 => ?_)
          · walk_at "go"
            refine r_dec (fun h2 => ?_) (fun h2 => ?_)
            · walk_at "go"
              have hv : gv c' n = some y := (gv_iff nd3).mpr (List.mem_of_getElem? hn)
              obtain ⟨z, y', e5, e6, hz⟩ : ∃ z y', valV l (.inl n) = some z ∧ gv c' n = some y' ∧ Am K H7 z y' := by
                rcases hl.val n with ⟨_, q⟩ | h
                · rw [hv] at q; cases q
                · exact h
              rw [hv] at e6
              obtain rfl := Option.some.inj e6
              refine ⟨tb, z, rfl, .inl ⟨l, .inl n, .inr ⟨od, g2⟩, rfl, e5.symm⟩, ?_⟩
              refine ⟨acc, g1, lac, _, upd_same, ?_, e1.own hD0, by rw [upd_ne hdD]; exact g2⟩
              rw [if_pos ⟨h1, by omega⟩]
              exact g3.app (Ams.cons hz Ams.nil)
            · refine ⟨acc, g1, ?_, e1, g2⟩
              rw [if_neg fun z => h2 (by omega), List.append_nil]
              exact g3
          · walk_at "run"
            refine ⟨acc, g1, ?_, e1, g2⟩
            rw [if_neg fun z => h1 z.1, List.append_nil]
            exact g3
        · rintro H1 ⟨acc, g1, g3, e1, g2⟩
          rw [hl.len, List.take_length] at g3
          refine ⟨g2, ?_⟩
          have e2 := ext_unlock hd e1
          have hD2 : upd H1 tb (.dK l) D = some (.lst acc) := by rw [upd_ne hdD.symm]; exact g1
          generalize upd H1 tb (.dK l) = H8 at *
          walk_at "go"
          refine ⟨D, acc, _, 30, 30, rfl, .inl (.inl hD2), g3.x0 e2, fun q hq => ?_, by decide, by decide +kernel, M4 (Nat.le_trans win_len (by omega)), fun v9 H9 e9 a9 => ?_⟩
          · obtain ⟨p, hp, rfl⟩ := win_mem hq
            exact hin3 p hp
          rw [win_W] at a9
          have hW9 := (hW7.x0 e2).x0 e9
          obtain ⟨dx9, hi9⟩ := hW9.ins
          walk_at "go"
          refine ⟨d, aw, way, c', now, 30, 30, rfl, hW9, by omega, hlo.1, hlo.2, hin3, by decide, by decide +kernel, M4 (by omega), fun v10 H10 e10 a10 => ?_⟩
          rw [flow_W nd3, show now - (way : Int) + 1 + (way : Int) = now + 1 by omega] at a10
          walk_at "go"
          refine k_like (a10.eqd 2 (a9.x0 e10)) fun H11 e11 => ?_
          have e5_11 := e57.trans (e2.trans (e9.trans (e10.trans e11)))
          walk_at "run"
          exact ⟨_, _, _, _, rfl, b5.x0 e5_11, e35.trans e5_11.of0⟩
      · rintro σ' H4 ⟨u7, u8, u9, u10, rfl, b4, e4⟩
        walk_at "go"
        exact k H4 c' (e3.trans (Ext.mem2 e4)) b4 (hW3.b b3 e4) (hT3.b b3 e4) nd3 hin3 l3
def spHopDeed (cH : Addr) (K : PySem.W.Frag) : Sp := fun vs H Q _ => ∃ (b : Bag) (S : List Addr) (l ah tb : Addr) (way age N : Int) (n : Nat) (c c' : List (Int × Rat)), vs = [.ref b.a, .ref l] ∧ BagAt K H b ∧ b.a ≠ l ∧ H l = some (.lst [.ref ah, .ref tb, .int N, .int way, .int age]) ∧ HopAt cH K H S ah way age c ∧ TabAt K H tb c' ∧ HopI N way age n c c' ∧ tb ∈ S ∧ (∀ s ∈ S, H s ≠ none) ∧ 1 ≤ way ∧ way ≤ 20 ∧ 1 ≤ age ∧ age ≤ 12 ∧ n ≤ 58 ∧
  ∀ H' N' c1 c1', Ext [b.a, l, ah, tb] H H' → BagAt K H' b → H' l = some (.lst [.ref ah, .ref tb, .int N', .int way, .int age]) → HopAt cH K H' S ah way age c1 → TabAt K H' tb c1' → HopI N' way age (n + 1) c1 c1' → Q (.bl true) H'
abbrev s_law_hop_deed : Stmt := top 39
theorem c_law_hop_deed : FnScope ["_law_bag_here", "_law_side", "_law_hop", "_law_table", "_law_latest", "_law_way_of", "_law_age_of", "_law_one", "_law_at", "_law_k", "_law_since", "_law_until", "_law_due", "_law_key"] ["_law_bag_here", "_law_side"] (defScope s_law_hop_deed) := ⟨rfl, rfl, rfl, by decide +kernel, rfl, by decide +kernel, by decide +kernel⟩
theorem f_law_hop_deed (F : FunD K "_law_hop_deed" "_law_hop_deed" (defArgs s_law_hop_deed) (defBody s_law_hop_deed) (defScope s_law_hop_deed) [] [] f fd) (hm : mg "_law_hop_deed" = some (.ref f)) {cH : Addr} (T : Bt mg) (THop : Ct K mg "Hop" cH ["_way", "_age", "_sent"]) (F_law_draw : Fn P w K mg base 1 "_law_draw" (spDraw K)) (F_law_of : Fn P w K mg base 2 "_law_of" (spOf K)) (F_law_some : Fn P w K mg base 3 "_law_some" (spSome K)) (F_law_all : Fn P w K mg base 3 "_law_all" (spLAll K)) (F_law_same : Fn P w K mg base 4 "_law_same" (spLike K 4)) (MHop_remember : Mt P w K mg base 1 cH "remember" (spRemember cH K)) (MHop_sent_after : Mt P w K mg base 3 cH "sent_after" (spSentAfter cH K)) : Fn P w K mg base 5 "_law_hop_deed" (spHopDeed cH K) := by
  refine fn_def F hm c_law_hop_deed (fun vs H Q E h => ?_) (fun _ _ _ _ _ _ us hl => match us, hl with | [_, _], _ => rfl) (fun cdv A outer s H vs Q E hr h => ?_)
  · obtain ⟨b, S, l, ah, tb, way, age, N, n, c, c', rfl, _⟩ := h
    rfl
  · obtain ⟨b, S, l, ah, tb, way, age, N, n, c, c', rfl, hb, hbl, hl, hH, hT, I, hS, hS0, w1, w20, a1, a12, n58, k⟩ := h
    have nd := c_law_hop_deed.nd
    refine ⟨_, (pss_cons (ps_asg (pe_tup (pa_cons (pe_ix ix_list (pv 1) pe_int (fun _ _ => rfl)) (pa_cons (pe_ix ix_list (pv 1) pe_int (fun _ _ => rfl)) (pa_cons (pe_ix ix_list (pv 1) pe_int (fun _ _ => rfl)) (pa_cons (pe_ix ix_list (pv 1) pe_int (fun _ _ => rfl)) (pa_cons (pe_ix ix_list (pv 1) pe_int (fun _ _ => rfl)) pa_nil)))))) (pg_tup rfl (pgs_cons (pg_name (i := 2) nd rfl (by first | exact Or.inl rfl | exact Or.inr rfl)) (pgs_cons (pg_name (i := 3) nd rfl (by first | exact Or.inl rfl | exact Or.inr rfl)) (pgs_cons (pg_name (i := 4) nd rfl (by first | exact Or.inl rfl | exact Or.inr rfl)) (pgs_cons (pg_name (i := 5) nd rfl (by first | exact Or.inl rfl | exact Or.inr rfl)) (pgs_cons (pg_name (i := 6) nd rfl (by first | exact Or.inl rfl | exact Or.inr rfl)) pgs_nil)))))))
      (pss_cons (ps_set (i := 7) nd rfl (by first | exact Or.inl rfl | exact Or.inr rfl) (pe_fn F_law_some (hr.mono (by decide)) (pa_cons (pv 0) (pa_cons pe_int pa_nil))))
      (pss_cons (ps_set (i := 8) nd rfl (by first | exact Or.inl rfl | exact Or.inr rfl) (pe_op op_add (pv 4) (pe_fn F_law_of (hr.mono (by decide)) (pa_cons (pv 0) (pa_cons (pe_lst (pa_cons pe_int (pa_cons pe_int (pa_cons pe_int (pa_cons (pe_un un_neg pe_int) (pa_cons pe_int (pa_cons (pe_op op_sub pe_int (pe_fn F_law_draw (hr.mono (by decide)) (pa_cons (pv 0) (pa_cons (pe_op op_add (pv 5) (pv 6)) pa_nil)))) pa_nil))))))) pa_nil)))))
      (pss_cons (ps_if (pt_cmpR op_notN (pe_mt MHop_remember (hr.mono (by decide)) (pv 2) (pa_cons (pv 8) (pa_cons (pv 7) pa_nil))) pe_non (nomark _))
        (pss_one (ps_ret pe_bl))
        pss_nil)
      (pss_cons (ps_dput (hu_of hr) (pv 3) (pv 8) (pv 7) (by rfl))
      (pss_mid (ps_asg (pe_callB (call_max2 rfl) (by rfl) T.max (by decide +kernel) (pa_cons (pv 4) (pa_cons (pv 8) pa_nil))) (pg_sub (pv 1) pe_int set_list))
      (pss_cons (ps_for PassesOwn.never rfl (pi_range1 rfl T.range (pa_cons pe_int pa_nil)) (pg_name (i := 9) nd rfl (by first | exact Or.inl rfl | exact Or.inr rfl))
        (pss_cons (ps_set (i := 10) nd rfl (by first | exact Or.inl rfl | exact Or.inr rfl) (pe_op op_add (pe_op op_sub (pe_op op_sub (pe_ix ix_list (pv 1) pe_int (fun _ _ => rfl)) (pv 5)) (pv 6)) (pe_fn F_law_draw (hr.mono (by decide)) (pa_cons (pv 0) (pa_cons (pe_op op_add (pe_op op_add (pv 5) (pv 6)) pe_int) pa_nil)))))
        (pss_cons (ps_set (i := 11) nd rfl (by first | exact Or.inl rfl | exact Or.inr rfl) (pe_op op_sub (pe_op op_add (pv 10) (pe_fn F_law_draw (hr.mono (by decide)) (pa_cons (pv 0) (pa_cons (pe_op op_add (pe_op op_add (pv 5) (pv 6)) pe_int) pa_nil)))) pe_int))
        (pss_cons (ps_set (i := 12) nd rfl (by first | exact Or.inl rfl | exact Or.inr rfl) (pe_fn F_law_all (hr.mono (by decide)) (pa_cons (pe_lock (pe_lc (own := [("_law_key", 13)]) (g := gName 13) rfl nd (pi_keys (pv 3)) (blkOk_by (N := ["_law_bag_here", "_law_side", "_law_hop", "_law_table", "_law_latest", "_law_way_of", "_law_age_of", "_law_one", "_law_at", "_law_k", "_law_since", "_law_until", "_law_due", "_law_key"]) (sc := defScope s_law_hop_deed) (by decide +kernel)) (fun _ _ _ _ _ => pg_name (i := 13) nd rfl (Or.inl rfl)) (fun _ _ _ _ _ => (pts_one (pt_chain op_lt op_lt (pv 10) (pv 13) (pv 11)))) (fun _ _ _ _ _ => (pe_dget (hu_of hr) (pv 3) (pv 13) (fun _ _ => rfl) : PE _ _ (tDGet _ _))))) pa_nil)))
        (pss_one (ps_if (pt_not (pt_val (pe_fn F_law_same (hr.mono (by decide)) (pa_cons (pe_mt MHop_sent_after (hr.mono (by decide)) (pv 2) (pa_cons (pv 10) (pa_cons (pv 11) pa_nil))) (pa_cons (pv 12) pa_nil)))))
          (pss_one (ps_ret pe_bl))
          pss_nil))))))
      (pss_one (ps_ret pe_bl))))))))), ?_⟩
    show (_ : TS) _ [some _, some _, none, none, none, none, none, none, none, none, none, none, none, none] _
    try dsimp only [cxOf, Cx.nox]
    have M4 : ∀ {n : Nat}, n ≤ 4000 → n * 30 ≤ 2 ^ 400 := fun h => Nat.le_trans (Nat.mul_le_mul_right 30 h) (by decide +kernel)
    have hs : SqL K H l [.ref ah, .ref tb, .int N, .int way, .int age] := .inl (.inl hl)
    walk_at "go"
    rename_i p hp
    have e1 : Ext [] H (upd H p (.tup [.ref ah, .ref tb, .int N, .int way, .int age])) := Ext.refl.new hp
    generalize upd H p (.tup [.ref ah, .ref tb, .int N, .int way, .int age]) = H1 at *
    have b1 := hb.x0 e1
    walk_at "go"
    refine ⟨b, 30, rfl, b1, by decide, fun vo o H2 ao io b2 n2 => ?_⟩
    walk_at "go"
    refine k_draw b2 (by omega) (Int.lt_of_le_of_lt (by omega : way + age ≤ 32) (by decide)) fun x H3 l0 u0 b3 n3 => ?_
    walk_at "go"
    rename_i pl hpl
    have nbl : b.a ≠ pl := b3.ne hpl
    have e4 : Ext [] H3 (upd H3 pl (.lst [.int 1, .int 1, .int 0, .int (-1), .int 2, .int (1 - x)])) := Ext.refl.new hpl
    refine of_intN (ns := [1, 1, 0, -1, 2, 1 - x]) (b3.x0 e4) lstS nbl (Nat.zero_lt_succ _) (show 6 ≤ 4000 by decide) fun y H5 hy b5 n5 => ?_
    have hyb : -way - age < y ∧ y ≤ 2 := by
      simp only [List.mem_cons, List.not_mem_nil, or_false] at hy
      rcases hy with rfl | rfl | rfl | rfl | rfl | rfl <;> omega
    have n15 : Ext [b.a] H1 H5 := n2.trans (n3.trans (e4.of0.trans n5))
    have n05 : Ext [b.a] H H5 := e1.of0.trans n15
    have hH5 := (hH.x0 e1).b b1 n15
    have hT5 := (hT.x0 e1).b b1 n15
    have hl5 := keepL (e1 _ _ hl fun z => nomatch z) n15 hbl
    have ao5 := (ao.b b2 n3).b b3 (e4.of0.trans n5)
    have hS5 : ∀ s ∈ S, H5 s ≠ none := fun s hs z => by
      by_cases q : s = b.a
      · obtain ⟨lb, h⟩ := b5.lst
        rw [q, h] at z
        cases z
      · cases h0 : H s with
        | none => exact hS0 s hs h0
        | some o0 =>
          rw [n05 _ _ h0 (by simpa using q)] at z
          cases z
    obtain ⟨dx, d, lk, hi5, hd5, itd5, dS⟩ := id hH5
    obtain ⟨tick, etick⟩ : ∃ z, z = N + y := ⟨_, rfl⟩
    walk_at "go"
    rw [← etick]
    refine ⟨S, ah, way, age, c, tick, vo, o, rfl, hH5, I.nd, I.lk (by omega), ao5, hS5, fun H6 e6 hH6 => ?_⟩
    obtain ⟨nt6, nl6⟩ := no_ins hi5
    obtain ⟨lt5, htb5, _⟩ := id hT5
    have tah : tb ≠ ah := fun z => by rw [z, hi5] at htb5; cases htb5
    have lah : l ≠ ah := fun z => by rw [z, hi5] at hl5; cases hl5
    have ltb : l ≠ tb := fun z => by rw [z, htb5] at hl5; cases hl5
    have hT6 : TabAt K H6 tb c' := hT5.f e6 fun y hy => by
      rw [List.mem_singleton.mp hy]
      exact ⟨tah.symm, _, hi5, (fun _ z => nomatch z), fun _ _ z => nomatch z⟩
    have b6 := b5.f e6 nl6
    have hl6 : H6 l = some (.lst [.ref ah, .ref tb, .int N, .int way, .int age]) := e6 _ _ hl5 (by simpa using lah)
    obtain ⟨l6, htb6, ln6, hT7⟩ := hT6.put (k := tick) (ao5.f e6 nt6)
    walk_at "run"
    refine ⟨tb, _, rfl, DPut.k (k := .inl tick) htb6 (Nat.lt_of_le_of_lt (by have := I.len'; omega : l6.length ≤ 4000) (by decide)), ?_⟩
    have e7 : Ext [tb] H6 (upd H6 tb (.dK (putK l6 (.inl tick) vo))) := Ext.refl.at_ List.mem_cons_self
    have hH7 := hH6.f e7 fun y hy => by rw [List.mem_singleton.mp hy]; exact off_dk htb6 hS hH6
    have b7 := b6.f e7 (no_dk htb6).2
    have hl7 := e7 _ _ hl6 (by simpa using ltb)
    generalize upd H6 tb (.dK (putK l6 (.inl tick) vo)) = H7 at *
    refine r_mid (fun σ' H' => ∃ (N' : Int), σ' = [some (.ref b.a), some (.ref l), some (.ref ah), some (.ref tb), some (.int N), some (.int way), some (.int age), some vo, some (.int tick), none, none, none, none, none] ∧ H' l = some (.lst [.ref ah, .ref tb, .int N', .int way, .int age]) ∧ Ext [l] H7 H' ∧ N ≤ N' ∧ tick ≤ N') ?_ ?_
    · walk_at "go"
      refine r_setB (K := K) hl7 rfl _ rfl (fun H8 hl8 e8 c8 => ?_)
      refine ⟨_, rfl, hl8, e8, ?_, ?_⟩ <;> (first | omega | (split <;> omega))
    · rintro σ' H8 ⟨N', rfl, hl8, e8, N1, N2⟩
      have ntl := no_lst hl7
      obtain ⟨lt7, htb7, _⟩ := id hT7
      have hT8 : TabAt K H8 tb (gp c' tick o) := hT7.f e8 fun y hy => by
        rw [List.mem_singleton.mp hy]
        exact ⟨ltb, _, hl7, (fun _ z => nomatch z), fun _ _ z => nomatch z⟩
      have hH8 := hH7.f e8 fun y hy => by rw [List.mem_singleton.mp hy]; exact off_lst hl7 hH7
      have b8 := b7.side e8 (by simpa using hbl) (ni_lst hl7)
      have J : HopI N' way age (n + 1) (remembered c way age tick o) (gp c' tick o) := (I.late N1 (Nat.le_refl n)).step N2 io
      have e08 : Ext [b.a, l, ah, tb] H H8 := (n05.mono (by intro z hz; rw [List.mem_singleton.mp hz]; simp)).trans ((e6.mono (by intro z hz; rw [List.mem_singleton.mp hz]; simp)).trans ((e7.mono (by intro z hz; rw [List.mem_singleton.mp hz]; simp)).trans (e8.mono (by intro z hz; rw [List.mem_singleton.mp hz]; simp))))
      generalize remembered c way age tick o = c1 at *
      generalize gp c' tick o = c1' at *
      clear hT7 hH7 b7 hT6 hH6 hH5 hT5 b6 ao5 ao
      walk_at "go"
      refine r_for ?_
      walk_at "go"
      refine ⟨_, rfl, by decide, by decide, ?_⟩
      refine r_loopR (fun j σ' H' => ∃ (u9 u10 u11 u12 u13 : Option V), σ' = [some (.ref b.a), some (.ref l), some (.ref ah), some (.ref tb), some (.int N), some (.int way), some (.int age), some vo, some (.int tick), u9, u10, u11, u12, u13] ∧ BagAt K H' b ∧ Ext [b.a] H8 H') ⟨_, _, _, _, _, rfl, b8, Ext.refl⟩ ?_ ?_
      · rintro j σ' H9 hj ⟨u9, u10, u11, u12, u13, rfl, b9, e9⟩
        have hl9 := keepL hl8 e9 hbl
        have hs9 : SqL K H9 l [.ref ah, .ref tb, .int N', .int way, .int age] := .inl (.inl hl9)
        walk_at "go"
        refine k_draw b9 (by omega) (Int.lt_of_le_of_lt (by omega : way + age + 3 ≤ 44) (by decide)) fun x10 H10 l10 u10' b10 n10 => ?_
        obtain ⟨lo, elo⟩ : ∃ z, z = N' - way - age + x10 := ⟨_, rfl⟩
        walk_at "go"
        rw [← elo]
        walk_at "go"
        refine k_draw b10 (by omega) (Int.lt_of_le_of_lt (by omega : way + age + 3 ≤ 44) (by decide)) fun x11 H11 l11 u11' b11 n11 => ?_
        obtain ⟨hi, ehi⟩ : ∃ z, z = lo + x11 - 1 := ⟨_, rfl⟩
        walk_at "go"
        rw [← ehi]
        have e811 := e9.trans (n10.trans n11)
        have hT11 := hT8.b b8 e811
        have hH11 := hH8.b b8 e811
        obtain ⟨lk11, hd, hl⟩ := id hT11
        walk_at "go"
        refine r_lockE hd fun od => ?_
        have E0 : Ext [tb] H11 (upd H11 tb (.frz od (.dK lk11))) := Ext.refl.at_ List.mem_cons_self
        walk_at "go"
        refine ⟨tb, od, rfl, .inl ⟨lk11, upd_same, fun D hD => ?_⟩⟩
        have hdD : tb ≠ D := fun q => by rw [q, upd_same] at hD; cases hD
        have hD0 : H11 D = none := by rw [upd_ne hdD.symm] at hD; exact hD
        have ll := J.len'
        refine r_lcK (kv := lk11) (fun i H1 => ∃ acc, H1 D = some (.lst acc) ∧ Ams K H11 acc (win (c1'.take i) lo hi) ∧ Ext [tb] H11 H1 ∧ H1 tb = some (.frz od (.dK lk11))) ⟨[], upd_same, Ams.nil, E0.new hD, by rw [upd_ne hdD]; exact upd_same⟩ ?_ ?_ ?_
        · rintro i H1 _ ⟨_, _, _, _, p⟩
          exact p
        · rintro i ky y0 H1 hx ⟨acc, g1, g3, e1, g2⟩
          obtain ⟨n, y, rfl, hn, hy⟩ := hl.get hx
          have lac : acc.length < sizeLine := by
            refine Nat.lt_of_le_of_lt ?_ (by decide : 4000 < sizeLine)
            rw [g3.1]
            refine Nat.le_trans win_len ?_
            rw [List.length_take]
            omega
          rw [win_take hn, show kV (.inl n) = V.int n from rfl]
          walk_at "go"
          refine ⟨rfl, ?_⟩
          walk_at "go"
          refine r_dec (fun h1 => ?_) (fun h1 => ?_)
          · walk_at "go"
            refine r_dec (fun h2 => ?_) (fun h2 => ?_)
            · walk_at "go"
              have hv : gv c1' n = some y := (gv_iff J.nd').mpr (List.mem_of_getElem? hn)
              obtain ⟨z, y', e5, e6, hz⟩ : ∃ z y', valV lk11 (.inl n) = some z ∧ gv c1' n = some y' ∧ Am K H11 z y' := by
                rcases hl.val n with ⟨_, q⟩ | h
                · rw [hv] at q; cases q
                · exact h
              rw [hv] at e6
              obtain rfl := Option.some.inj e6
              refine ⟨tb, z, rfl, .inl ⟨lk11, .inl n, .inr ⟨od, g2⟩, rfl, e5.symm⟩, ?_⟩
              refine ⟨acc, g1, lac, _, upd_same, ?_, e1.own hD0, by rw [upd_ne hdD]; exact g2⟩
              rw [if_pos ⟨h1, h2⟩]
              exact g3.app (Ams.cons hz Ams.nil)
            · refine ⟨acc, g1, ?_, e1, g2⟩
              rw [if_neg fun z => h2 z.2, List.append_nil]
              exact g3
          · walk_at "run"
            refine ⟨acc, g1, ?_, e1, g2⟩
            rw [if_neg fun z => h1 z.1, List.append_nil]
            exact g3
        · rintro H1 ⟨acc, g1, g3, e1, g2⟩
          rw [hl.len, List.take_length] at g3
          refine ⟨g2, ?_⟩
          have e2 := ext_unlock hd e1
          have hD2 : upd H1 tb (.dK lk11) D = some (.lst acc) := by rw [upd_ne hdD.symm]; exact g1
          generalize upd H1 tb (.dK lk11) = H12 at *
          walk_at "go"
          refine ⟨D, acc, _, 30, 30, rfl, .inl (.inl hD2), g3.x0 e2, fun q hq => ?_, by decide, by decide +kernel, M4 (Nat.le_trans win_len (by omega)), fun v9 H13 e13 a9 => ?_⟩
          · obtain ⟨p, hp, rfl⟩ := win_mem hq
            exact J.inn' p hp
          have hH13 := (hH11.x0 e2).x0 e13
          obtain ⟨dx13, d13, l13, hi13, _⟩ := id hH13
          walk_at "go"
          refine ⟨S, ah, way, age, c1, lo, hi, 30, 30, rfl, hH13, J.inn, by decide, by decide +kernel, J.lk (by omega), J.l4 (by omega), fun v10 H14 e14 a10 => ?_⟩
          rw [J.win (by omega)] at a10
          walk_at "go"
          refine k_like (a10.eqd 2 (a9.x0 e14)) fun H15 e15 => ?_
          have e11_15 := e2.trans (e13.trans (e14.trans e15))
          walk_at "run"
          exact ⟨_, _, _, _, _, rfl, b11.x0 e11_15, e811.trans e11_15.of0⟩
      · rintro σ' H9 ⟨u9, u10, u11, u12, u13, rfl, b9, e9⟩
        walk_at "go"
        exact k H9 N' c1 c1' (e08.trans (e9.mono (by intro z hz; rw [List.mem_singleton.mp hz]; simp))) b9 (keepL hl8 e9 hbl) (hH8.b b8 e9) (hT8.b b8 e9) J
end
end Yk

set_option maxHeartbeats 4000000
namespace Yk
open PySem PySem.Spec PyProof.Rows L2
/-! Up to three wires, hops and buffers side by side. -/
structure WR where
  t : Addr
  aw : Addr
  tb : Addr
  d : Addr
  c : List (Int × Rat)
def WR.own (r : WR) : List Addr := [r.aw, r.tb, r.d]
structure HR where
  l : Addr
  ah : Addr
  tb : Addr
  N : Int
  c : List (Int × Rat)
  c' : List (Int × Rat)
def HR.own (r : HR) : List Addr := [r.l, r.ah, r.tb]
structure BR where
  l : Addr
  bb : Addr
  q : Rat
  m : Rat
def BR.own (r : BR) : List Addr := [r.l, r.bb]
def Dj (x y : List Addr) : Prop := ∀ a ∈ x, a ∉ y
theorem Dj.symm {x y : List Addr} (h : Dj x y) : Dj y x := fun a ha hb => h a hb ha
def WOk (cW : Addr) (K : PySem.W.Frag) (H : Hp) (way n : Nat) (r : WR) : Prop := SqT K H r.t [.ref r.aw, .ref r.tb, .int (way : Int)] ∧ WireAt cW K H r.d r.aw (way : Int) r.c ∧ TabAt K H r.tb r.c ∧ ND r.c ∧ (∀ p ∈ r.c, In 30 30 p.2) ∧ r.c.length ≤ n ∧ r.d ≠ r.tb
def HpOk (cH : Addr) (K : PySem.W.Frag) (H : Hp) (S : List Addr) (way age : Int) (n : Nat) (r : HR) : Prop := H r.l = some (.lst [.ref r.ah, .ref r.tb, .int r.N, .int way, .int age]) ∧ HopAt cH K H S r.ah way age r.c ∧ TabAt K H r.tb r.c' ∧ HopI r.N way age n r.c r.c'
/-- what may change beside -/
def GT (H : Hp) (S T : List Addr) : Prop := ∀ x ∈ T, (∃ o, H x = some o ∧ (∀ xs, o ≠ .tup xs) ∧ ∀ u xs, o ≠ .frz u (.tup xs)) ∧ (x ∈ S ∨ ∀ l, H x ≠ some (.dK l))
theorem GT.nt {H : Hp} {S T : List Addr} (h : GT H S T) : NoTup H T := fun x hx => (h x hx).1
section
variable {cW cH cB : Addr} {K : PySem.W.Frag} {H H1 : Hp} {S T : List Addr} {way n X : Nat} {w a : Int}
theorem WOk.f {r : WR} (h : WOk cW K H way n r) (e : Ext T H H1) (nt : NoTup H T) (hT : Dj r.own T) : WOk cW K H1 way n r := by
  obtain ⟨h1, h2, h3, h4⟩ := h
  refine ⟨tupF e h1 nt, h2.f e (hT _ (by simp [WR.own])) (hT _ (by simp [WR.own])) nt, h3.f e fun x hx => ⟨fun z => hT r.tb (by simp [WR.own]) (by rw [← z]; exact hx), nt x hx⟩, h4⟩
theorem WOk.up {r : WR} {n' : Nat} (h : WOk cW K H way n r) (g : n ≤ n') : WOk cW K H way n' r := by
  obtain ⟨h1, h2, h3, h4, h5, h6, h7⟩ := h
  exact ⟨h1, h2, h3, h4, h5, Nat.le_trans h6 g, h7⟩
theorem HpOk.f {r : HR} (h : HpOk cH K H S w a n r) (e : Ext T H H1) (g : GT H S T) (hT : Dj r.own T) : HpOk cH K H1 S w a n r := by
  obtain ⟨h1, h2, h3, h4⟩ := h
  exact ⟨e _ _ h1 (hT _ (by simp [HR.own])), h2.f e fun x hx => ⟨fun z => hT r.ah (by simp [HR.own]) (by rw [← z]; exact hx), g x hx⟩, h3.f e fun x hx => ⟨fun z => hT r.tb (by simp [HR.own]) (by rw [← z]; exact hx), g.nt x hx⟩, h4⟩
theorem HpOk.up {r : HR} {n' : Nat} (h : HpOk cH K H S w a n r) (g : n ≤ n') : HpOk cH K H S w a n' r := by
  obtain ⟨h1, h2, h3, h4⟩ := h
  exact ⟨h1, h2, h3, h4.late (Int.le_refl _) g⟩
theorem HpOk.more {r : HR} {x : Addr} (h : HpOk cH K H S w a n r) (hx : H x = none) : HpOk cH K H (x :: S) w a n r := by
  obtain ⟨h1, ⟨dx, d, l, g1, g2, g3, g4⟩, h3, h4⟩ := h
  refine ⟨h1, ⟨dx, d, l, g1, g2, g3, fun z => ?_⟩, h3, h4⟩
  rcases List.mem_cons.mp z with z | z
  · rw [z, hx] at g2; cases g2
  · exact g4 z
theorem BAt.f {l bb : Addr} {top q m : Rat} (h : BAt cB K H X l bb top q m) (e : Ext T H H1) (nt : NoTup H T) (h1 : l ∉ T) (h2 : bb ∉ T) : BAt cB K H1 X l bb top q m := by
  obtain ⟨vh, vm, vt, g1, g2, g3, g4, g5, g6⟩ := h
  exact ⟨vh, vm, vt, e _ _ g1 h1, g2.f e h2 nt, g3.f e nt, g4.f e nt, g5.f e nt, g6⟩
theorem BAt.up {l bb : Addr} {top q m : Rat} (h : BAt cB K H X l bb top q m) : BAt cB K H (X * 30) l bb top q m := by
  obtain ⟨vh, vm, vt, g1, g2, g3, g4, g5, g6, g7, g8, g9, g10⟩ := h
  have d := Nat.dvd_mul_right X 30
  exact ⟨vh, vm, vt, g1, g2, g3, g4, g5, g6, g7, g8.up d, g9.up d, g10.up d⟩
end
structure S3t (cW cH cB : Addr) (K : PySem.W.Frag) (b : Bag) (way age : Nat) (top : Rat) (Lw Lh Lb : Addr) (S : List Addr) (nw nh X : Nat) (ws : List WR) (hs : List HR) (bs : List BR) (H : Hp) : Prop where
  bag : BagAt K H b
  lw : H Lw = some (.lst (ws.map fun r => V.ref r.t))
  lh : H Lh = some (.lst (hs.map fun r => V.ref r.l))
  lb : H Lb = some (.lst (bs.map fun r => V.ref r.l))
  w : ∀ (j : Nat) (r : WR), ws[j]? = some r → WOk cW K H way nw r
  h : ∀ (j : Nat) (r : HR), hs[j]? = some r → HpOk cH K H S (way : Int) (age : Int) nh r
  u : ∀ (j : Nat) (r : BR), bs[j]? = some r → BAt cB K H X r.l r.bb top r.q r.m
  sw : ∀ (j : Nat) (r : WR), ws[j]? = some r → r.tb ∈ S ∧ r.d ∈ S
  sh : ∀ (j : Nat) (r : HR), hs[j]? = some r → r.tb ∈ S
  s0 : ∀ s ∈ S, H s ≠ none
  ww : ∀ (i j : Nat) (r : WR) (r' : WR), ws[i]? = some r → ws[j]? = some r' → i ≠ j → Dj r.own r'.own
  hh : ∀ (i j : Nat) (r : HR) (r' : HR), hs[i]? = some r → hs[j]? = some r' → i ≠ j → Dj r.own r'.own
  uu : ∀ (i j : Nat) (r : BR) (r' : BR), bs[i]? = some r → bs[j]? = some r' → i ≠ j → Dj r.own r'.own
  wh : ∀ (i j : Nat) (r : WR) (r' : HR), ws[i]? = some r → hs[j]? = some r' → Dj r.own r'.own
  wu : ∀ (i j : Nat) (r : WR) (r' : BR), ws[i]? = some r → bs[j]? = some r' → Dj r.own r'.own
  hu : ∀ (i j : Nat) (r : HR) (r' : BR), hs[i]? = some r → bs[j]? = some r' → Dj r.own r'.own
  bw : ∀ (i : Nat) (r : WR), ws[i]? = some r → Dj [b.a, Lw, Lh, Lb] r.own
  bh : ∀ (i : Nat) (r : HR), hs[i]? = some r → Dj [b.a, Lw, Lh, Lb] r.own
  bu : ∀ (i : Nat) (r : BR), bs[i]? = some r → Dj [b.a, Lw, Lh, Lb] r.own
  nb : [b.a, Lw, Lh, Lb].Nodup
section
variable {cW cH cB : Addr} {K : PySem.W.Frag} {b : Bag} {way age : Nat} {top : Rat} {Lw Lh Lb : Addr} {S T : List Addr} {nw nh X : Nat} {ws : List WR} {hs : List HR} {bs : List BR} {H H1 : Hp}
theorem dj_sub {x y z : List Addr} (h : Dj x y) (g : ∀ a ∈ z, a ∈ y) : Dj x z := fun a ha hb => h a ha (g a hb)
theorem ne_none {x : Addr} {o : HO} (h : H x = some o) : H x ≠ none := fun z => by rw [h] at z; cases z
theorem S3t.s1 (s : S3t cW cH cB K b way age top Lw Lh Lb S nw nh X ws hs bs H) (e : Ext T H H1) (k : ∀ x ∈ T, H1 x ≠ none) : ∀ x ∈ S, H1 x ≠ none := fun x hx => by
  by_cases q : x ∈ T
  · exact k x q
  · cases h0 : H x with
    | none => exact absurd h0 (s.s0 x hx)
    | some o => exact ne_none (e _ _ h0 q)
theorem S3t.bg (s : S3t cW cH cB K b way age top Lw Lh Lb S nw nh X ws hs bs H) (e : Ext [b.a] H H1) (b1 : BagAt K H1 b) : S3t cW cH cB K b way age top Lw Lh Lb S nw nh X ws hs bs H1 := by
  obtain ⟨l0, hl0⟩ := s.bag.lst
  obtain ⟨l1, hl1⟩ := b1.lst
  have nb := s.nb
  simp only [List.nodup_cons, List.mem_cons, List.not_mem_nil, or_false, not_or] at nb
  have g : GT H S [b.a] := fun x hx => by
    rw [List.mem_singleton.mp hx]
    exact ⟨⟨_, hl0, (fun _ z => nomatch z), fun _ _ z => nomatch z⟩, .inr fun l z => by rw [hl0] at z; cases z⟩
  have aw : ∀ {own : List Addr}, Dj [b.a, Lw, Lh, Lb] own → Dj own [b.a] := fun h => dj_sub h.symm (by simp)
  exact { s with bag := b1, lw := e _ _ s.lw (by simp; grind), lh := e _ _ s.lh (by simp; grind), lb := e _ _ s.lb (by simp; grind), w := fun j r hj => (s.w j r hj).f e g.nt (aw (s.bw j r hj)), h := fun j r hj => (s.h j r hj).f e g (aw (s.bh j r hj)), u := fun j r hj => (s.u j r hj).f e g.nt (aw (s.bu j r hj) _ (by simp [BR.own])) (aw (s.bu j r hj) _ (by simp [BR.own])), s0 := s.s1 e fun x hx => by rw [List.mem_singleton.mp hx]; exact ne_none hl1 }
theorem S3t.x0 (s : S3t cW cH cB K b way age top Lw Lh Lb S nw nh X ws hs bs H) (e : Ext [] H H1) : S3t cW cH cB K b way age top Lw Lh Lb S nw nh X ws hs bs H1 := s.bg e.of0 (s.bag.x0 e)
theorem S3t.wire (s : S3t cW cH cB K b way age top Lw Lh Lb S nw nh X ws hs bs H) {i : Nat} {r : WR} {c1 : List (Int × Rat)} (hi : ws[i]? = some r) (e : Ext [b.a, r.d, r.tb] H H1) (b1 : BagAt K H1 b) (w1 : WOk cW K H1 way (nw + 1) { r with c := c1 }) :
    S3t cW cH cB K b way age top Lw Lh Lb S (nw + 1) nh X (ws.set i { r with c := c1 }) hs bs H1 := by
  obtain ⟨l0, hl0⟩ := s.bag.lst
  obtain ⟨l1, hl1⟩ := b1.lst
  obtain ⟨q1, q2, q3, _⟩ := s.w i r hi
  obtain ⟨ld, hd⟩ := q2.dk
  obtain ⟨lt, ht, _⟩ := q3
  obtain ⟨p1, p2, p3, _⟩ := id w1
  obtain ⟨ld1, hd1⟩ := p2.dk
  obtain ⟨lt1, ht1, _⟩ := p3
  have nb := s.nb
  simp only [List.nodup_cons, List.mem_cons, List.not_mem_nil, or_false, not_or] at nb
  have g : GT H S [b.a, r.d, r.tb] := fun x hx => by
    simp only [List.mem_cons, List.not_mem_nil, or_false] at hx
    rcases hx with rfl | rfl | rfl
    · exact ⟨⟨_, hl0, (fun _ z => nomatch z), fun _ _ z => nomatch z⟩, .inr fun l z => by rw [hl0] at z; cases z⟩
    · exact ⟨⟨_, hd, (fun _ z => nomatch z), fun _ _ z => nomatch z⟩, .inl (s.sw i r hi).2⟩
    · exact ⟨⟨_, ht, (fun _ z => nomatch z), fun _ _ z => nomatch z⟩, .inl (s.sw i r hi).1⟩
  have aw : ∀ {own : List Addr}, Dj [b.a, Lw, Lh, Lb] own → Dj r.own own → Dj own [b.a, r.d, r.tb] := fun h h2 x hx hy => by
    simp only [List.mem_cons, List.not_mem_nil, or_false] at hy
    rcases hy with rfl | rfl | rfl
    · exact h _ (by simp) hx
    · exact h2 _ (by simp [WR.own]) hx
    · exact h2 _ (by simp [WR.own]) hx
  have bL : ∀ x ∈ [Lw, Lh, Lb], x ∉ [b.a, r.d, r.tb] := fun x hx hy => by
    have h := s.bw i r hi x (by simp at hx ⊢; grind)
    simp only [WR.own, List.mem_cons, List.not_mem_nil, or_false, not_or] at h hy hx
    grind
  have get : ∀ {j : Nat} {r' : WR}, (ws.set i { r with c := c1 })[j]? = some r' → (j = i ∧ r' = { r with c := c1 }) ∨ (j ≠ i ∧ ws[j]? = some r') := fun {j r'} h => by
    rw [List.getElem?_set] at h
    by_cases q : i = j
    · rw [if_pos q] at h
      split at h
      · exact .inl ⟨q.symm, (Option.some.inj h).symm⟩
      · cases h
    · rw [if_neg q] at h
      exact .inr ⟨fun z => q z.symm, h⟩
  have ow : ∀ {j : Nat} {r' : WR}, (ws.set i { r with c := c1 })[j]? = some r' → ∃ r0, ws[j]? = some r0 ∧ r0.own = r'.own ∧ r0.tb = r'.tb ∧ r0.d = r'.d := fun {j r'} h => by
    rcases get h with ⟨rfl, rfl⟩ | ⟨_, h⟩
    · exact ⟨r, hi, rfl, rfl, rfl⟩
    · exact ⟨r', h, rfl, rfl, rfl⟩
  refine { s with bag := b1, lw := ?_, lh := e _ _ s.lh (bL _ (by simp)), lb := e _ _ s.lb (bL _ (by simp)), w := fun j r' hj => ?_, h := fun j r' hj => (s.h j r' hj).f e g (aw (s.bh j r' hj) (s.wh i j r r' hi hj)), u := fun j r' hj => ?_, sw := fun j r' hj => ?_, s0 := s.s1 e fun x hx => ?_, ww := fun i' j' r1 r2 h1 h2 hne => ?_, wh := fun i' j' r1 r2 h1 h2 => ?_, wu := fun i' j' r1 r2 h1 h2 => ?_, bw := fun i' r1 h1 => ?_ }
  · have em : (ws.set i { r with c := c1 }).map (fun r => V.ref r.t) = ws.map fun r => V.ref r.t := by
      rw [List.map_set]
      refine List.ext_getElem? fun j => ?_
      rw [List.getElem?_set]
      by_cases q : i = j
      · subst q
        rw [if_pos rfl, List.getElem?_map, hi, List.length_map]
        have := (List.getElem?_eq_some_iff.mp hi).1
        rw [if_pos this]
        rfl
      · rw [if_neg q]
    rw [em]
    exact e _ _ s.lw (bL _ (by simp))
  · rcases get hj with ⟨rfl, rfl⟩ | ⟨hne, hj⟩
    · exact w1
    · exact ((s.w j r' hj).f e g.nt (aw (s.bw j r' hj) (s.ww i j r r' hi hj fun z => hne z.symm))).up (Nat.le_succ _)
  · have d := aw (s.bu j r' hj) (s.wu i j r r' hi hj)
    exact (s.u j r' hj).f e g.nt (d _ (by simp [BR.own])) (d _ (by simp [BR.own]))
  · obtain ⟨r0, h0, _, e2, e3⟩ := ow hj
    rw [← e2, ← e3]
    exact s.sw j r0 h0
  · simp only [List.mem_cons, List.not_mem_nil, or_false] at hx
    rcases hx with rfl | rfl | rfl
    · exact ne_none hl1
    · exact ne_none hd1
    · exact ne_none ht1
  · obtain ⟨r3, h3, e3, _⟩ := ow h1
    obtain ⟨r4, h4, e4, _⟩ := ow h2
    rw [← e3, ← e4]
    exact s.ww i' j' r3 r4 h3 h4 hne
  · obtain ⟨r3, h3, e3, _⟩ := ow h1
    rw [← e3]
    exact s.wh i' j' r3 r2 h3 h2
  · obtain ⟨r3, h3, e3, _⟩ := ow h1
    rw [← e3]
    exact s.wu i' j' r3 r2 h3 h2
  · obtain ⟨r3, h3, e3, _⟩ := ow h1
    rw [← e3]
    exact s.bw i' r3 h3
theorem S3t.hop (s : S3t cW cH cB K b way age top Lw Lh Lb S nw nh X ws hs bs H) {i : Nat} {r : HR} {N1 : Int} {c1 c2 : List (Int × Rat)} (hi : hs[i]? = some r) (e : Ext [b.a, r.l, r.ah, r.tb] H H1) (b1 : BagAt K H1 b) (w1 : HpOk cH K H1 S (way : Int) (age : Int) (nh + 1) { r with N := N1, c := c1, c' := c2 }) :
    S3t cW cH cB K b way age top Lw Lh Lb S nw (nh + 1) X ws (hs.set i { r with N := N1, c := c1, c' := c2 }) bs H1 := by
  obtain ⟨l0, hl0⟩ := s.bag.lst
  obtain ⟨l1, hl1⟩ := b1.lst
  obtain ⟨q1, ⟨dx, d, ld, q2, _⟩, ⟨lt, ht, _⟩, _⟩ := s.h i r hi
  obtain ⟨p1, ⟨dx1, d1, ld1, p2, _⟩, ⟨lt1, ht1, _⟩, _⟩ := id w1
  have nb := s.nb
  simp only [List.nodup_cons, List.mem_cons, List.not_mem_nil, or_false, not_or] at nb
  have g : GT H S [b.a, r.l, r.ah, r.tb] := fun x hx => by
    simp only [List.mem_cons, List.not_mem_nil, or_false] at hx
    rcases hx with rfl | rfl | rfl | rfl
    · exact ⟨⟨_, hl0, (fun _ z => nomatch z), fun _ _ z => nomatch z⟩, .inr fun l z => by rw [hl0] at z; cases z⟩
    · exact ⟨⟨_, q1, (fun _ z => nomatch z), fun _ _ z => nomatch z⟩, .inr fun l z => by rw [q1] at z; cases z⟩
    · exact ⟨⟨_, q2, (fun _ z => nomatch z), fun _ _ z => nomatch z⟩, .inr fun l z => by rw [q2] at z; cases z⟩
    · exact ⟨⟨_, ht, (fun _ z => nomatch z), fun _ _ z => nomatch z⟩, .inl (s.sh i r hi)⟩
  have aw : ∀ {own : List Addr}, Dj [b.a, Lw, Lh, Lb] own → Dj r.own own → Dj own [b.a, r.l, r.ah, r.tb] := fun h h2 x hx hy => by
    simp only [List.mem_cons, List.not_mem_nil, or_false] at hy
    rcases hy with rfl | rfl | rfl | rfl
    · exact h _ (by simp) hx
    · exact h2 _ (by simp [HR.own]) hx
    · exact h2 _ (by simp [HR.own]) hx
    · exact h2 _ (by simp [HR.own]) hx
  have bL : ∀ x ∈ [Lw, Lh, Lb], x ∉ [b.a, r.l, r.ah, r.tb] := fun x hx hy => by
    have h := s.bh i r hi x (by simp at hx ⊢; grind)
    simp only [HR.own, List.mem_cons, List.not_mem_nil, or_false, not_or] at h hy hx
    grind
  have get : ∀ {j : Nat} {r' : HR}, (hs.set i { r with N := N1, c := c1, c' := c2 })[j]? = some r' → (j = i ∧ r' = { r with N := N1, c := c1, c' := c2 }) ∨ (j ≠ i ∧ hs[j]? = some r') := fun {j r'} h => by
    rw [List.getElem?_set] at h
    by_cases q : i = j
    · rw [if_pos q] at h
      split at h
      · exact .inl ⟨q.symm, (Option.some.inj h).symm⟩
      · cases h
    · rw [if_neg q] at h
      exact .inr ⟨fun z => q z.symm, h⟩
  have ow : ∀ {j : Nat} {r' : HR}, (hs.set i { r with N := N1, c := c1, c' := c2 })[j]? = some r' → ∃ r0, hs[j]? = some r0 ∧ r0.own = r'.own ∧ r0.tb = r'.tb := fun {j r'} h => by
    rcases get h with ⟨rfl, rfl⟩ | ⟨_, h⟩
    · exact ⟨r, hi, rfl, rfl⟩
    · exact ⟨r', h, rfl, rfl⟩
  refine { s with bag := b1, lw := e _ _ s.lw (bL _ (by simp)), lh := ?_, lb := e _ _ s.lb (bL _ (by simp)), w := fun j r' hj => (s.w j r' hj).f e g.nt (aw (s.bw j r' hj) (s.wh j i r' r hj hi).symm), h := fun j r' hj => ?_, u := fun j r' hj => ?_, sh := fun j r' hj => ?_, s0 := s.s1 e fun x hx => ?_, hh := fun i' j' r1 r2 h1 h2 hne => ?_, wh := fun i' j' r1 r2 h1 h2 => ?_, hu := fun i' j' r1 r2 h1 h2 => ?_, bh := fun i' r1 h1 => ?_ }
  · have em : (hs.set i { r with N := N1, c := c1, c' := c2 }).map (fun r => V.ref r.l) = hs.map fun r => V.ref r.l := by
      rw [List.map_set]
      refine List.ext_getElem? fun j => ?_
      rw [List.getElem?_set]
      by_cases q : i = j
      · subst q
        rw [if_pos rfl, List.getElem?_map, hi, List.length_map]
        have := (List.getElem?_eq_some_iff.mp hi).1
        rw [if_pos this]
        rfl
      · rw [if_neg q]
    rw [em]
    exact e _ _ s.lh (bL _ (by simp))
  · rcases get hj with ⟨rfl, rfl⟩ | ⟨hne, hj⟩
    · exact w1
    · exact ((s.h j r' hj).f e g (aw (s.bh j r' hj) (s.hh i j r r' hi hj fun z => hne z.symm))).up (Nat.le_succ _)
  · have d := aw (s.bu j r' hj) (s.hu i j r r' hi hj)
    exact (s.u j r' hj).f e g.nt (d _ (by simp [BR.own])) (d _ (by simp [BR.own]))
  · obtain ⟨r0, h0, _, e2⟩ := ow hj
    rw [← e2]
    exact s.sh j r0 h0
  · simp only [List.mem_cons, List.not_mem_nil, or_false] at hx
    rcases hx with rfl | rfl | rfl | rfl
    · exact ne_none hl1
    · exact ne_none p1
    · exact ne_none p2
    · exact ne_none ht1
  · obtain ⟨r3, h3, e3, _⟩ := ow h1
    obtain ⟨r4, h4, e4, _⟩ := ow h2
    rw [← e3, ← e4]
    exact s.hh i' j' r3 r4 h3 h4 hne
  · obtain ⟨r3, h3, e3, _⟩ := ow h2
    rw [← e3]
    exact s.wh i' j' r1 r3 h1 h3
  · obtain ⟨r3, h3, e3, _⟩ := ow h1
    rw [← e3]
    exact s.hu i' j' r3 r2 h3 h2
  · obtain ⟨r3, h3, e3, _⟩ := ow h1
    rw [← e3]
    exact s.bh i' r3 h3
theorem S3t.buf (s : S3t cW cH cB K b way age top Lw Lh Lb S nw nh X ws hs bs H) {i : Nat} {r : BR} {q1 m1 : Rat} (hi : bs[i]? = some r) (e : Ext [b.a, r.l, r.bb] H H1) (b1 : BagAt K H1 b) (w1 : BAt cB K H1 (X * 30) r.l r.bb top q1 m1) :
    S3t cW cH cB K b way age top Lw Lh Lb S nw nh (X * 30) ws hs (bs.set i { r with q := q1, m := m1 }) H1 := by
  obtain ⟨l0, hl0⟩ := s.bag.lst
  obtain ⟨l1, hl1⟩ := b1.lst
  obtain ⟨vh, vm, vt, p1, p2, _⟩ := s.u i r hi
  obtain ⟨dx, fs, p2⟩ := p2.ins
  obtain ⟨vh1, vm1, vt1, p3, p4, _⟩ := id w1
  obtain ⟨dx1, fs1, p4⟩ := p4.ins
  have nb := s.nb
  simp only [List.nodup_cons, List.mem_cons, List.not_mem_nil, or_false, not_or] at nb
  have g : GT H S [b.a, r.l, r.bb] := fun x hx => by
    simp only [List.mem_cons, List.not_mem_nil, or_false] at hx
    rcases hx with rfl | rfl | rfl
    · exact ⟨⟨_, hl0, (fun _ z => nomatch z), fun _ _ z => nomatch z⟩, .inr fun l z => by rw [hl0] at z; cases z⟩
    · exact ⟨⟨_, p1, (fun _ z => nomatch z), fun _ _ z => nomatch z⟩, .inr fun l z => by rw [p1] at z; cases z⟩
    · exact ⟨⟨_, p2, (fun _ z => nomatch z), fun _ _ z => nomatch z⟩, .inr fun l z => by rw [p2] at z; cases z⟩
  have aw : ∀ {own : List Addr}, Dj [b.a, Lw, Lh, Lb] own → Dj r.own own → Dj own [b.a, r.l, r.bb] := fun h h2 x hx hy => by
    simp only [List.mem_cons, List.not_mem_nil, or_false] at hy
    rcases hy with rfl | rfl | rfl
    · exact h _ (by simp) hx
    · exact h2 _ (by simp [BR.own]) hx
    · exact h2 _ (by simp [BR.own]) hx
  have bL : ∀ x ∈ [Lw, Lh, Lb], x ∉ [b.a, r.l, r.bb] := fun x hx hy => by
    have h := s.bu i r hi x (by simp at hx ⊢; grind)
    simp only [BR.own, List.mem_cons, List.not_mem_nil, or_false, not_or] at h hy hx
    grind
  have get : ∀ {j : Nat} {r' : BR}, (bs.set i { r with q := q1, m := m1 })[j]? = some r' → (j = i ∧ r' = { r with q := q1, m := m1 }) ∨ (j ≠ i ∧ bs[j]? = some r') := fun {j r'} h => by
    rw [List.getElem?_set] at h
    by_cases q : i = j
    · rw [if_pos q] at h
      split at h
      · exact .inl ⟨q.symm, (Option.some.inj h).symm⟩
      · cases h
    · rw [if_neg q] at h
      exact .inr ⟨fun z => q z.symm, h⟩
  have ow : ∀ {j : Nat} {r' : BR}, (bs.set i { r with q := q1, m := m1 })[j]? = some r' → ∃ r0, bs[j]? = some r0 ∧ r0.own = r'.own := fun {j r'} h => by
    rcases get h with ⟨rfl, rfl⟩ | ⟨_, h⟩
    · exact ⟨r, hi, rfl⟩
    · exact ⟨r', h, rfl⟩
  refine { s with bag := b1, lw := e _ _ s.lw (bL _ (by simp)), lh := e _ _ s.lh (bL _ (by simp)), lb := ?_, w := fun j r' hj => (s.w j r' hj).f e g.nt (aw (s.bw j r' hj) (s.wu j i r' r hj hi).symm), h := fun j r' hj => (s.h j r' hj).f e g (aw (s.bh j r' hj) (s.hu j i r' r hj hi).symm), u := fun j r' hj => ?_, s0 := s.s1 e fun x hx => ?_, uu := fun i' j' r1 r2 h1 h2 hne => ?_, wu := fun i' j' r1 r2 h1 h2 => ?_, hu := fun i' j' r1 r2 h1 h2 => ?_, bu := fun i' r1 h1 => ?_ }
  · have em : (bs.set i { r with q := q1, m := m1 }).map (fun r => V.ref r.l) = bs.map fun r => V.ref r.l := by
      rw [List.map_set]
      refine List.ext_getElem? fun j => ?_
      rw [List.getElem?_set]
      by_cases q : i = j
      · subst q
        rw [if_pos rfl, List.getElem?_map, hi, List.length_map]
        have := (List.getElem?_eq_some_iff.mp hi).1
        rw [if_pos this]
        rfl
      · rw [if_neg q]
    rw [em]
    exact e _ _ s.lb (bL _ (by simp))
  · rcases get hj with ⟨rfl, rfl⟩ | ⟨hne, hj⟩
    · exact w1
    · have d := aw (s.bu j r' hj) (s.uu i j r r' hi hj fun z => hne z.symm)
      exact ((s.u j r' hj).f e g.nt (d _ (by simp [BR.own])) (d _ (by simp [BR.own]))).up
  · simp only [List.mem_cons, List.not_mem_nil, or_false] at hx
    rcases hx with rfl | rfl | rfl
    · exact ne_none hl1
    · exact ne_none p3
    · exact ne_none p4
  · obtain ⟨r3, h3, e3⟩ := ow h1
    obtain ⟨r4, h4, e4⟩ := ow h2
    rw [← e3, ← e4]
    exact s.uu i' j' r3 r4 h3 h4 hne
  · obtain ⟨r3, h3, e3⟩ := ow h2
    rw [← e3]
    exact s.wu i' j' r1 r3 h1 h3
  · obtain ⟨r3, h3, e3⟩ := ow h2
    rw [← e3]
    exact s.hu i' j' r1 r3 h1 h3
  · obtain ⟨r3, h3, e3⟩ := ow h1
    rw [← e3]
    exact s.bu i' r3 h3
theorem S3t.am_wire (s : S3t cW cH cB K b way age top Lw Lh Lb S nw nh X ws hs bs H) {i : Nat} {r : WR} (hi : ws[i]? = some r) (e : Ext [b.a, r.d, r.tb] H H1) {v : V} {q : Rat} (h : Am K H v q) : Am K H1 v q := by
  obtain ⟨l0, hl0⟩ := s.bag.lst
  obtain ⟨q1, q2, q3, _⟩ := s.w i r hi
  obtain ⟨ld, hd⟩ := q2.dk
  obtain ⟨lt, ht, _⟩ := q3
  refine h.f e fun x hx => ?_
  simp only [List.mem_cons, List.not_mem_nil, or_false] at hx
  rcases hx with rfl | rfl | rfl
  · exact ⟨_, hl0, (fun _ z => nomatch z), fun _ _ z => nomatch z⟩
  · exact ⟨_, hd, (fun _ z => nomatch z), fun _ _ z => nomatch z⟩
  · exact ⟨_, ht, (fun _ z => nomatch z), fun _ _ z => nomatch z⟩
theorem S3t.tup_wire (s : S3t cW cH cB K b way age top Lw Lh Lb S nw nh X ws hs bs H) {i : Nat} {r : WR} (hi : ws[i]? = some r) (e : Ext [b.a, r.d, r.tb] H H1) {a : Addr} {xs : List V} (h : SqT K H a xs) : SqT K H1 a xs := by
  obtain ⟨l0, hl0⟩ := s.bag.lst
  obtain ⟨q1, q2, q3, _⟩ := s.w i r hi
  obtain ⟨ld, hd⟩ := q2.dk
  obtain ⟨lt, ht, _⟩ := q3
  refine tupF e h fun x hx => ?_
  simp only [List.mem_cons, List.not_mem_nil, or_false] at hx
  rcases hx with rfl | rfl | rfl
  · exact ⟨_, hl0, (fun _ z => nomatch z), fun _ _ z => nomatch z⟩
  · exact ⟨_, hd, (fun _ z => nomatch z), fun _ _ z => nomatch z⟩
  · exact ⟨_, ht, (fun _ z => nomatch z), fun _ _ z => nomatch z⟩
theorem S3t.am_hop (s : S3t cW cH cB K b way age top Lw Lh Lb S nw nh X ws hs bs H) {i : Nat} {r : HR} (hi : hs[i]? = some r) (e : Ext [b.a, r.l, r.ah, r.tb] H H1) {v : V} {q : Rat} (h : Am K H v q) : Am K H1 v q := by
  obtain ⟨l0, hl0⟩ := s.bag.lst
  obtain ⟨q1, ⟨dx, d, ld, q2, _⟩, ⟨lt, ht, _⟩, _⟩ := s.h i r hi
  refine h.f e fun x hx => ?_
  simp only [List.mem_cons, List.not_mem_nil, or_false] at hx
  rcases hx with rfl | rfl | rfl | rfl
  · exact ⟨_, hl0, (fun _ z => nomatch z), fun _ _ z => nomatch z⟩
  · exact ⟨_, q1, (fun _ z => nomatch z), fun _ _ z => nomatch z⟩
  · exact ⟨_, q2, (fun _ z => nomatch z), fun _ _ z => nomatch z⟩
  · exact ⟨_, ht, (fun _ z => nomatch z), fun _ _ z => nomatch z⟩
theorem S3t.am_buf (s : S3t cW cH cB K b way age top Lw Lh Lb S nw nh X ws hs bs H) {i : Nat} {r : BR} (hi : bs[i]? = some r) (e : Ext [b.a, r.l, r.bb] H H1) {v : V} {q : Rat} (h : Am K H v q) : Am K H1 v q := by
  obtain ⟨l0, hl0⟩ := s.bag.lst
  obtain ⟨vh, vm, vt, p1, p2, _⟩ := s.u i r hi
  obtain ⟨dx, fs, p2⟩ := p2.ins
  refine h.f e fun x hx => ?_
  simp only [List.mem_cons, List.not_mem_nil, or_false] at hx
  rcases hx with rfl | rfl | rfl
  · exact ⟨_, hl0, (fun _ z => nomatch z), fun _ _ z => nomatch z⟩
  · exact ⟨_, p1, (fun _ z => nomatch z), fun _ _ z => nomatch z⟩
  · exact ⟨_, p2, (fun _ z => nomatch z), fun _ _ z => nomatch z⟩
/-! further ones -/
/-- an address that none of them has -/
structure NewA (b : Bag) (Lw Lh Lb : Addr) (ws : List WR) (hs : List HR) (bs : List BR) (x : Addr) : Prop where
  b : x ∉ [b.a, Lw, Lh, Lb]
  w : ∀ (j : Nat) (r : WR), ws[j]? = some r → x ∉ r.own
  h : ∀ (j : Nat) (r : HR), hs[j]? = some r → x ∉ r.own
  u : ∀ (j : Nat) (r : BR), bs[j]? = some r → x ∉ r.own
theorem S3t.fresh (s : S3t cW cH cB K b way age top Lw Lh Lb S nw nh X ws hs bs H) {x : Addr} (hx : H x = none) : NewA b Lw Lh Lb ws hs bs x := by
  have no : ∀ {y : Addr} {o : HO}, H y = some o → x ≠ y := fun h z => by rw [← z, hx] at h; cases h
  obtain ⟨l0, hl0⟩ := s.bag.lst
  refine ⟨?_, fun j r hj => ?_, fun j r hj => ?_, fun j r hj => ?_⟩
  · simp only [List.mem_cons, List.not_mem_nil, or_false, not_or]
    exact ⟨no hl0, no s.lw, no s.lh, no s.lb⟩
  · obtain ⟨q1, q2, ⟨lt, ht, _⟩, _⟩ := s.w j r hj
    obtain ⟨ld, hd⟩ := q2.dk
    obtain ⟨dx, hi⟩ := q2.ins
    simp only [WR.own, List.mem_cons, List.not_mem_nil, or_false, not_or]
    exact ⟨no hi, no ht, no hd⟩
  · obtain ⟨q1, ⟨dx, d, ld, q2, _⟩, ⟨lt, ht, _⟩, _⟩ := s.h j r hj
    simp only [HR.own, List.mem_cons, List.not_mem_nil, or_false, not_or]
    exact ⟨no q1, no q2, no ht⟩
  · obtain ⟨vh, vm, vt, p1, p2, _⟩ := s.u j r hj
    obtain ⟨dx, fs, p2⟩ := p2.ins
    simp only [BR.own, List.mem_cons, List.not_mem_nil, or_false, not_or]
    exact ⟨no p1, no p2⟩
theorem app_get {α : Type} {l : List α} {x y : α} {j : Nat} (h : (l ++ [x])[j]? = some y) : (j < l.length ∧ l[j]? = some y) ∨ (j = l.length ∧ y = x) := by
  rw [List.getElem?_append] at h
  split at h
  · rename_i q
    exact .inl ⟨q, h⟩
  · rename_i q
    have := (List.getElem?_eq_some_iff.mp h).1
    simp only [List.length_cons, List.length_nil] at this
    have e : j = l.length := by omega
    subst e
    rw [Nat.sub_self] at h
    exact .inr ⟨rfl, (Option.some.inj h).symm⟩
theorem gt_lst {l : Addr} {xs : List V} (h : H l = some (.lst xs)) : GT H S [l] := fun x hx => by
  rw [List.mem_singleton.mp hx]
  exact ⟨⟨_, h, (fun _ z => nomatch z), fun _ _ z => nomatch z⟩, .inr fun l z => by rw [h] at z; cases z⟩
theorem ni_refs {α : Type} {l : Addr} {xs : List α} {g : α → Addr} (h : H l = some (.lst (xs.map fun r => V.ref (g r)))) (h0 : 0 < xs.length) : NI H [l] := by
  cases xs with
  | nil => exact absurd h0 (by simp)
  | cons x xs => exact ni_lst h
theorem S3t.addW (s : S3t cW cH cB K b way age top Lw Lh Lb S nw nh X ws hs bs H) {r : WR} (l0 : 0 < ws.length) (hn : ∀ x ∈ r.own, NewA b Lw Lh Lb ws hs bs x) (w1 : WOk cW K H way nw r) (hS : ∀ (j : Nat) (r' : HR), hs[j]? = some r' → HpOk cH K H (r.tb :: r.d :: S) (way : Int) (age : Int) nh r') :
    S3t cW cH cB K b way age top Lw Lh Lb (r.tb :: r.d :: S) nw nh X (ws ++ [r]) hs bs (upd H Lw (.lst ((ws.map fun r => V.ref r.t) ++ [V.ref r.t]))) := by
  have e : Ext [Lw] H (upd H Lw (.lst ((ws.map fun r => V.ref r.t) ++ [V.ref r.t]))) := Ext.refl.at_ List.mem_cons_self
  have g : GT H (r.tb :: r.d :: S) [Lw] := gt_lst s.lw
  have aw : ∀ {own : List Addr}, Dj [b.a, Lw, Lh, Lb] own → Dj own [Lw] := fun h => dj_sub h.symm (by simp)
  have nb := s.nb
  simp only [List.nodup_cons, List.mem_cons, List.not_mem_nil, or_false, not_or] at nb
  have rb : Dj r.own [b.a, Lw, Lh, Lb] := fun x hx => (hn x hx).b
  have b1 : BagAt K _ b := s.bag.side e (by simp; grind) (ni_refs s.lw l0)
  refine { s with bag := b1, lw := by rw [upd_same, List.map_append]; rfl, lh := e _ _ s.lh (by simp; grind), lb := e _ _ s.lb (by simp; grind), w := fun j r' hj => ?_, h := fun j r' hj => (hS j r' hj).f e g (aw (s.bh j r' hj)), u := fun j r' hj => ?_, sw := fun j r' hj => ?_, sh := fun j r' hj => List.mem_cons_of_mem _ (List.mem_cons_of_mem _ (s.sh j r' hj)), s0 := fun x hx => ?_, ww := fun i' j' r1 r2 h1 h2 hne => ?_, wh := fun i' j' r1 r2 h1 h2 => ?_, wu := fun i' j' r1 r2 h1 h2 => ?_, bw := fun i' r1 h1 => ?_ }
  · rcases app_get hj with ⟨_, hj⟩ | ⟨_, rfl⟩
    · exact (s.w j r' hj).f e g.nt (aw (s.bw j r' hj))
    · exact w1.f e g.nt (dj_sub rb (by simp))
  · have d := aw (s.bu j r' hj)
    exact (s.u j r' hj).f e g.nt (d _ (by simp [BR.own])) (d _ (by simp [BR.own]))
  · rcases app_get hj with ⟨_, hj⟩ | ⟨_, rfl⟩
    · exact ⟨List.mem_cons_of_mem _ (List.mem_cons_of_mem _ (s.sw j r' hj).1), List.mem_cons_of_mem _ (List.mem_cons_of_mem _ (s.sw j r' hj).2)⟩
    · exact ⟨List.mem_cons_self, List.mem_cons_of_mem _ List.mem_cons_self⟩
  · obtain ⟨q1, q2, ⟨lt, ht, _⟩, _⟩ := w1
    obtain ⟨ld, hd⟩ := q2.dk
    have k1 : ∀ {y : Addr} {o : HO}, H y = some o → upd H Lw (.lst ((ws.map fun r => V.ref r.t) ++ [V.ref r.t])) y ≠ none := fun {y o} h => by
      by_cases q : y = Lw
      · rw [q, upd_same]; simp
      · rw [upd_ne q, h]; simp
    rcases List.mem_cons.mp hx with rfl | hx
    · exact k1 ht
    · rcases List.mem_cons.mp hx with rfl | hx
      · exact k1 hd
      · cases h0 : H x with
        | none => exact absurd h0 (s.s0 x hx)
        | some o => exact k1 h0
  · rcases app_get h1 with ⟨l1, g1⟩ | ⟨e1, rfl⟩ <;> rcases app_get h2 with ⟨l2, g2⟩ | ⟨e2, rfl⟩
    · exact s.ww i' j' r1 r2 g1 g2 hne
    · exact (fun x hx hy => (hn x hy).w i' r1 g1 hx)
    · exact (fun x hx => (hn x hx).w j' r2 g2)
    · exact absurd (e1.trans e2.symm) hne
  · rcases app_get h1 with ⟨l1, h1⟩ | ⟨e1, rfl⟩
    · exact s.wh i' j' r1 r2 h1 h2
    · exact fun x hx => (hn x hx).h j' r2 h2
  · rcases app_get h1 with ⟨l1, h1⟩ | ⟨e1, rfl⟩
    · exact s.wu i' j' r1 r2 h1 h2
    · exact fun x hx => (hn x hx).u j' r2 h2
  · rcases app_get h1 with ⟨l1, h1⟩ | ⟨e1, rfl⟩
    · exact s.bw i' r1 h1
    · exact rb.symm
theorem S3t.addH (s : S3t cW cH cB K b way age top Lw Lh Lb S nw nh X ws hs bs H) {r : HR} (l0 : 0 < hs.length) (hn : ∀ x ∈ r.own, NewA b Lw Lh Lb ws hs bs x) (w1 : HpOk cH K H (r.tb :: S) (way : Int) (age : Int) nh r) (hS : ∀ (j : Nat) (r' : HR), hs[j]? = some r' → HpOk cH K H (r.tb :: S) (way : Int) (age : Int) nh r') :
    S3t cW cH cB K b way age top Lw Lh Lb (r.tb :: S) nw nh X ws (hs ++ [r]) bs (upd H Lh (.lst ((hs.map fun r => V.ref r.l) ++ [V.ref r.l]))) := by
  have e : Ext [Lh] H (upd H Lh (.lst ((hs.map fun r => V.ref r.l) ++ [V.ref r.l]))) := Ext.refl.at_ List.mem_cons_self
  have g : GT H (r.tb :: S) [Lh] := gt_lst s.lh
  have aw : ∀ {own : List Addr}, Dj [b.a, Lw, Lh, Lb] own → Dj own [Lh] := fun h => dj_sub h.symm (by simp)
  have nb := s.nb
  simp only [List.nodup_cons, List.mem_cons, List.not_mem_nil, or_false, not_or] at nb
  have rb : Dj r.own [b.a, Lw, Lh, Lb] := fun x hx => (hn x hx).b
  have b1 : BagAt K _ b := s.bag.side e (by simp; grind) (ni_refs s.lh l0)
  refine { s with bag := b1, lw := e _ _ s.lw (by simp; grind), lh := by rw [upd_same, List.map_append]; rfl, lb := e _ _ s.lb (by simp; grind), w := fun j r' hj => (s.w j r' hj).f e g.nt (aw (s.bw j r' hj)), h := fun j r' hj => ?_, u := fun j r' hj => ?_, sw := fun j r' hj => ⟨List.mem_cons_of_mem _ (s.sw j r' hj).1, List.mem_cons_of_mem _ (s.sw j r' hj).2⟩, sh := fun j r' hj => ?_, s0 := fun x hx => ?_, hh := fun i' j' r1 r2 h1 h2 hne => ?_, wh := fun i' j' r1 r2 h1 h2 => ?_, hu := fun i' j' r1 r2 h1 h2 => ?_, bh := fun i' r1 h1 => ?_ }
  · rcases app_get hj with ⟨_, hj⟩ | ⟨_, rfl⟩
    · exact (hS j r' hj).f e g (aw (s.bh j r' hj))
    · exact w1.f e g (dj_sub rb (by simp))
  · have d := aw (s.bu j r' hj)
    exact (s.u j r' hj).f e g.nt (d _ (by simp [BR.own])) (d _ (by simp [BR.own]))
  · rcases app_get hj with ⟨_, hj⟩ | ⟨_, rfl⟩
    · exact List.mem_cons_of_mem _ (s.sh j r' hj)
    · exact List.mem_cons_self
  · obtain ⟨q1, _, ⟨lt, ht, _⟩, _⟩ := w1
    have k1 : ∀ {y : Addr} {o : HO}, H y = some o → upd H Lh (.lst ((hs.map fun r => V.ref r.l) ++ [V.ref r.l])) y ≠ none := fun {y o} h => by
      by_cases q : y = Lh
      · rw [q, upd_same]; simp
      · rw [upd_ne q, h]; simp
    rcases List.mem_cons.mp hx with rfl | hx
    · exact k1 ht
    · cases h0 : H x with
      | none => exact absurd h0 (s.s0 x hx)
      | some o => exact k1 h0
  · rcases app_get h1 with ⟨l1, g1⟩ | ⟨e1, rfl⟩ <;> rcases app_get h2 with ⟨l2, g2⟩ | ⟨e2, rfl⟩
    · exact s.hh i' j' r1 r2 g1 g2 hne
    · exact (fun x hx hy => (hn x hy).h i' r1 g1 hx)
    · exact (fun x hx => (hn x hx).h j' r2 g2)
    · exact absurd (e1.trans e2.symm) hne
  · rcases app_get h2 with ⟨l1, h2⟩ | ⟨e1, rfl⟩
    · exact s.wh i' j' r1 r2 h1 h2
    · exact (Dj.symm fun x hx => (hn x hx).w i' r1 h1)
  · rcases app_get h1 with ⟨l1, h1⟩ | ⟨e1, rfl⟩
    · exact s.hu i' j' r1 r2 h1 h2
    · exact fun x hx => (hn x hx).u j' r2 h2
  · rcases app_get h1 with ⟨l1, h1⟩ | ⟨e1, rfl⟩
    · exact s.bh i' r1 h1
    · exact rb.symm
theorem S3t.addB (s : S3t cW cH cB K b way age top Lw Lh Lb S nw nh X ws hs bs H) {r : BR} (l0 : 0 < bs.length) (hn : ∀ x ∈ r.own, NewA b Lw Lh Lb ws hs bs x) (w1 : BAt cB K H X r.l r.bb top r.q r.m) :
    S3t cW cH cB K b way age top Lw Lh Lb S nw nh X ws hs (bs ++ [r]) (upd H Lb (.lst ((bs.map fun r => V.ref r.l) ++ [V.ref r.l]))) := by
  have e : Ext [Lb] H (upd H Lb (.lst ((bs.map fun r => V.ref r.l) ++ [V.ref r.l]))) := Ext.refl.at_ List.mem_cons_self
  have g : GT H S [Lb] := gt_lst s.lb
  have aw : ∀ {own : List Addr}, Dj [b.a, Lw, Lh, Lb] own → Dj own [Lb] := fun h => dj_sub h.symm (by simp)
  have nb := s.nb
  simp only [List.nodup_cons, List.mem_cons, List.not_mem_nil, or_false, not_or] at nb
  have rb : Dj r.own [b.a, Lw, Lh, Lb] := fun x hx => (hn x hx).b
  have b1 : BagAt K _ b := s.bag.side e (by simp; grind) (ni_refs s.lb l0)
  refine { s with bag := b1, lw := e _ _ s.lw (by simp; grind), lh := e _ _ s.lh (by simp; grind), lb := by rw [upd_same, List.map_append]; rfl, w := fun j r' hj => (s.w j r' hj).f e g.nt (aw (s.bw j r' hj)), h := fun j r' hj => (s.h j r' hj).f e g (aw (s.bh j r' hj)), u := fun j r' hj => ?_, s0 := s.s1 e fun x hx => by rw [List.mem_singleton.mp hx, upd_same]; simp, uu := fun i' j' r1 r2 h1 h2 hne => ?_, wu := fun i' j' r1 r2 h1 h2 => ?_, hu := fun i' j' r1 r2 h1 h2 => ?_, bu := fun i' r1 h1 => ?_ }
  · rcases app_get hj with ⟨_, hj⟩ | ⟨_, rfl⟩
    · have d := aw (s.bu j r' hj)
      exact (s.u j r' hj).f e g.nt (d _ (by simp [BR.own])) (d _ (by simp [BR.own]))
    · have d : Dj r'.own [Lb] := dj_sub rb (by simp)
      exact w1.f e g.nt (d _ (by simp [BR.own])) (d _ (by simp [BR.own]))
  · rcases app_get h1 with ⟨l1, g1⟩ | ⟨e1, rfl⟩ <;> rcases app_get h2 with ⟨l2, g2⟩ | ⟨e2, rfl⟩
    · exact s.uu i' j' r1 r2 g1 g2 hne
    · exact (fun x hx hy => (hn x hy).u i' r1 g1 hx)
    · exact (fun x hx => (hn x hx).u j' r2 g2)
    · exact absurd (e1.trans e2.symm) hne
  · rcases app_get h2 with ⟨l1, h2⟩ | ⟨e1, rfl⟩
    · exact s.wu i' j' r1 r2 h1 h2
    · exact (Dj.symm fun x hx => (hn x hx).w i' r1 h1)
  · rcases app_get h2 with ⟨l1, h2⟩ | ⟨e1, rfl⟩
    · exact s.hu i' j' r1 r2 h1 h2
    · exact (Dj.symm fun x hx => (hn x hx).h i' r1 h1)
  · rcases app_get h1 with ⟨l1, h1⟩ | ⟨e1, rfl⟩
    · exact s.bu i' r1 h1
    · exact rb.symm
end
end Yk

set_option maxHeartbeats 4000000
namespace Yk
open PySem PySem.Spec PyProof.Rows L2

local macro_rules | `(tactic| walk_at "st") => `(tactic| first
  | with_reducible refine' r_tAt ?_
  | ((with_reducible refine' r_fld ?h1 ?h2 ?h3); (case h1 => first | assumption | exact upd_same); (case h2 => first | walk_at "lk" | rfl))
  | with_reducible refine' r_sAt ?_
  | ((with_reducible refine' r_putU ?h1 ?h2); (case h1 => (repeat refine putF_lt ?_); decide))
  | ((with_reducible refine' r_put ?h1 ?h2 ?h3); (case h1 => first | assumption | exact upd_same); (case h2 => (repeat refine putF_lt ?_); decide))
  | with_reducible refine' r_tMt ?_
  | ((with_reducible refine' r_met ?h1 ?h2 ?h3); (case h1 => first | assumption | exact upd_same); (case h2 => first | walk_at "lk" | rfl))
  | with_reducible refine' r_tCr ?_
  | with_reducible refine' r_tCrK ?_
  | with_reducible refine' r_chain ?_)
local macro_rules | `(tactic| walk_at "st") => `(tactic| first
  | with_reducible refine' r_dget ?_
  | with_reducible refine' r_dc ?_
  | with_reducible refine' r_iVals ?_
  | with_reducible refine' r_dnotin ?_
  | with_reducible refine' r_din ?_
  | with_reducible refine' r_iItems ?_
  | with_reducible refine' r_iKeysT ?_
  | with_reducible refine' r_tget1 ?_
  | with_reducible refine' r_tget2 ?_
  | with_reducible refine' r_dput ?_
  | with_reducible refine' r_tPr ?_
  | ((with_reducible refine' r_prp2 ?h1 ?h2); (case h1 => first | assumption | exact upd_same))
  | with_reducible refine' r_par3 ?_
  | ((with_reducible refine' r_dnT ?_); (intro np hnp))
  | ((with_reducible refine' r_dnK ?_); (intro np hnp)))
/-! Wires, buffers and hops beside the law's own: the law. -/
local macro_rules | `(tactic| walk_at "lk") => `(tactic| first | with_reducible exact lk_Wire_way | with_reducible exact lk_Wire_sent | with_reducible exact lk_Hop_way | with_reducible exact lk_Hop_age | with_reducible exact lk_Hop_sent | exact lk_Wire_no (by decide +kernel) (by decide +kernel) | exact lk_Hop_no (by decide +kernel) (by decide +kernel) (by decide +kernel) | exact lk_Buf_no (by decide +kernel) (by decide +kernel) (by decide +kernel))
local macro_rules | `(tactic| walk_at "st") => `(tactic| first | with_reducible refine' r_iRng2 ?_)
section
variable {cW cH cB : Addr} {K : PySem.W.Frag} {H : Hp} {R : Addr → Hp → Prop}
theorem mkW {way : Int} (k : ∀ aw d H', Ext [] H H' → H aw = none → H d = none → d ≠ aw → WireAt cW K H' d aw way [] → R aw H') : ∀ x dx, H x = none → H dx = none → dx ≠ x → spWireInit cW [.ref x, .int way] (upd (upd H dx (.own x)) x (.ins cW dx [])) (fun v H2 => v = .non ∧ R x H2) E0 := by
  intro x dx hx hdx hne
  refine ⟨x, dx, way, rfl, upd_same, fun d hd hda => ⟨rfl, ?_⟩⟩
  have hdd : d ≠ dx := fun z => by rw [z, upd_ne hne, upd_same] at hd; cases hd
  have hd0 : H d = none := by rw [upd_ne hda, upd_ne hdd] at hd; exact hd
  exact k x d _ ((((Ext.refl.new hdx).own hx).own hd0).own hx) hx hd0 hda ⟨dx, [], upd_same, by rw [upd_ne hda]; exact upd_same, .nil⟩
theorem mkH {way age : Int} {S : List Addr} (hS : ∀ s ∈ S, H s ≠ none) (k : ∀ ah H', Ext [] H H' → H ah = none → HopAt cH K H' S ah way age [] → R ah H') : ∀ x dx, H x = none → H dx = none → dx ≠ x → spHopInit cH [.ref x, .int way, .int age] (upd (upd H dx (.own x)) x (.ins cH dx [])) (fun v H2 => v = .non ∧ R x H2) E0 := by
  intro x dx hx hdx hne
  refine ⟨x, dx, way, age, rfl, upd_same, fun d hd hda => ⟨rfl, ?_⟩⟩
  have hdd : d ≠ dx := fun z => by rw [z, upd_ne hne, upd_same] at hd; cases hd
  have hd0 : H d = none := by rw [upd_ne hda, upd_ne hdd] at hd; exact hd
  exact k x _ ((((Ext.refl.new hdx).own hx).own hd0).own hx) hx ⟨dx, d, [], upd_same, by rw [upd_ne hda]; exact upd_same, .nil, fun z => hS d z hd0⟩
theorem mkB {v : V} {s : Rat} (hv : Am K H v s) (k : ∀ bb H', Ext [] H H' → H bb = none → BufAt cB K H' bb s 0 0 → R bb H') : ∀ x dx, H x = none → H dx = none → dx ≠ x → spBufInit cB K [.ref x, v] (upd (upd H dx (.own x)) x (.ins cB dx [])) (fun v H2 => v = .non ∧ R x H2) E0 := by
  intro x dx hx hdx hne
  have e0 : Ext [] H (upd (upd H dx (.own x)) x (.ins cB dx [])) := (Ext.refl.new hdx).own hx
  exact ⟨x, dx, v, s, rfl, upd_same, hv.x0 e0, fun H1 e1 b1 => ⟨rfl, k x H1 (e0.newx e1 hx) hx b1⟩⟩
end
/-- places that are taken, all different -/
structure Alc (H : Hp) (xs : List Addr) : Prop where
  all : ∀ x ∈ xs, H x ≠ none
  nd : xs.Nodup
theorem Alc.x0 {H H1 : Hp} {xs : List Addr} (A : Alc H xs) (e : Ext [] H H1) : Alc H1 xs := by
  refine ⟨fun x hx z => ?_, A.nd⟩
  cases h : H x with
  | none => exact A.all x hx h
  | some o =>
    rw [e _ _ h fun z => nomatch z] at z
    cases z
theorem Alc.add {H H1 : Hp} {xs : List Addr} {x : Addr} (A : Alc H xs) (hx : H x = none) (e : Ext [] H H1) (h1 : H1 x ≠ none) : Alc H1 (x :: xs) := by
  have B := A.x0 e
  refine ⟨fun y hy => ?_, List.nodup_cons.mpr ⟨fun z => A.all x z hx, A.nd⟩⟩
  rcases List.mem_cons.mp hy with rfl | hy
  · exact h1
  · exact B.all y hy
def Xk (j : Nat) : Nat := 3000000000000000000000000 * 30 ^ j
theorem Xk1 (j : Nat) : Xk (j + 1) = Xk j * 30 := by unfold Xk; rw [Nat.pow_succ, Nat.mul_assoc]
theorem Xk0 (j : Nat) : 0 < Xk j := Nat.mul_pos (by decide) (Nat.pow_pos (by decide))
theorem Xk3 (j : Nat) : 3000 ∣ Xk j := Nat.dvd_trans (by decide +kernel) (Nat.dvd_mul_right 3000000000000000000000000 (30 ^ j))
theorem Xk32 {j : Nat} (h : j ≤ 42) : Xk j ≤ 2 ^ 320 := Nat.le_trans (Nat.mul_le_mul_left _ (Nat.pow_le_pow_right (by decide) h)) (by decide +kernel)
theorem get_map {α β : Type} {l : List α} {g : α → β} {i : Nat} {x : β} (h : (l.map g)[i]? = some x) : ∃ r, l[i]? = some r ∧ x = g r := by
  rw [List.getElem?_map] at h
  cases e : l[i]? with
  | none => rw [e] at h; cases h
  | some r => rw [e] at h; exact ⟨r, rfl, (Option.some.inj h).symm⟩
theorem big_top : (⟨10000000000000000000000001, 3000000000000000000000000, by decide +kernel, by decide +kernel⟩ : Rat) = mkRat ((10000000000000000000000001 : Nat) : Int) 3000000000000000000000000 := by decide +kernel
theorem one_get {α : Type} {x y : α} {j : Nat} (h : [x][j]? = some y) : j = 0 ∧ y = x := by
  cases j with
  | zero => exact ⟨rfl, (Option.some.inj h).symm⟩
  | succ j => cases h
theorem S3t.one {cW cH cB : Addr} {K : PySem.W.Frag} {b : Bag} {way age : Nat} {top : Rat} {Lw Lh Lb t aw tb d lh ah tbh lb bb : Addr} {H : Hp} (A : [lb, bb, Lb, Lh, lh, tbh, ah, Lw, tb, aw, d, b.a].Nodup) (bag : BagAt K H b) (hLw : H Lw = some (.lst [.ref t])) (hLh : H Lh = some (.lst [.ref lh])) (hLb : H Lb = some (.lst [.ref lb]))
    (w : WOk cW K H way 0 ⟨t, aw, tb, d, []⟩) (h : HpOk cH K H [tbh, tb, d] (way : Int) (age : Int) 0 ⟨lh, ah, tbh, 0, [], []⟩) (u : BAt cB K H (Xk 0) lb bb top 0 0) :
    S3t cW cH cB K b way age top Lw Lh Lb [tbh, tb, d] 0 0 (Xk 0) [⟨t, aw, tb, d, []⟩] [⟨lh, ah, tbh, 0, [], []⟩] [⟨lb, bb, 0, 0⟩] H := by
  simp only [List.nodup_cons, List.mem_cons, List.not_mem_nil, or_false, not_or] at A
  have A0 := A
  obtain ⟨a1, a2, a3, a4, a5, a6, a7, a8, a9, a10, a11, _⟩ := A
  refine ⟨bag, hLw, hLh, hLb, fun j r hj => ?_, fun j r hj => ?_, fun j r hj => ?_, fun j r hj => ?_, fun j r hj => ?_, fun x hx => ?_, fun i j r r' h1 h2 hne => ?_, fun i j r r' h1 h2 hne => ?_, fun i j r r' h1 h2 hne => ?_, fun i j r r' h1 h2 => ?_, fun i j r r' h1 h2 => ?_, fun i j r r' h1 h2 => ?_, fun i r h1 => ?_, fun i r h1 => ?_, fun i r h1 => ?_, ?_⟩
  · obtain ⟨rfl, rfl⟩ := one_get hj; exact w
  · obtain ⟨rfl, rfl⟩ := one_get hj; exact h
  · obtain ⟨rfl, rfl⟩ := one_get hj; exact u
  · obtain ⟨rfl, rfl⟩ := one_get hj; simp
  · obtain ⟨rfl, rfl⟩ := one_get hj; simp
  · obtain ⟨_, q2, ⟨lt, ht, _⟩, _⟩ := w
    obtain ⟨_, _, ⟨lt2, ht2, _⟩, _⟩ := h
    obtain ⟨ld, hd⟩ := q2.dk
    simp only [List.mem_cons, List.not_mem_nil, or_false] at hx
    rcases hx with rfl | rfl | rfl
    · exact ne_none ht2
    · exact ne_none ht
    · exact ne_none hd
  · exact absurd ((one_get h1).1.trans (one_get h2).1.symm) hne
  · exact absurd ((one_get h1).1.trans (one_get h2).1.symm) hne
  · exact absurd ((one_get h1).1.trans (one_get h2).1.symm) hne
  · obtain ⟨_, rfl⟩ := one_get h1
    obtain ⟨_, rfl⟩ := one_get h2
    intro x hx hy
    simp only [WR.own, HR.own, List.mem_cons, List.not_mem_nil, or_false] at hx hy
    grind
  · obtain ⟨_, rfl⟩ := one_get h1
    obtain ⟨_, rfl⟩ := one_get h2
    intro x hx hy
    simp only [WR.own, BR.own, List.mem_cons, List.not_mem_nil, or_false] at hx hy
    grind
  · obtain ⟨_, rfl⟩ := one_get h1
    obtain ⟨_, rfl⟩ := one_get h2
    intro x hx hy
    simp only [HR.own, BR.own, List.mem_cons, List.not_mem_nil, or_false] at hx hy
    grind
  · obtain ⟨_, rfl⟩ := one_get h1
    intro x hx hy
    simp only [WR.own, List.mem_cons, List.not_mem_nil, or_false] at hx hy
    grind
  · obtain ⟨_, rfl⟩ := one_get h1
    intro x hx hy
    simp only [HR.own, List.mem_cons, List.not_mem_nil, or_false] at hx hy
    grind
  · obtain ⟨_, rfl⟩ := one_get h1
    intro x hx hy
    simp only [BR.own, List.mem_cons, List.not_mem_nil, or_false] at hx hy
    grind
  · simp only [List.nodup_cons, List.mem_cons, List.not_mem_nil, or_false, not_or]
    grind
section
variable {P : Program} {w : World} {K : PySem.W.Frag} {mg : Str → Option Value} {base : Heap} {f : Addr} {fd : FuncData}
def spLaw31 (K : PySem.W.Frag) : Sp := fun vs H Q _ => ∃ (a : Addr) (ns : List Int), vs = [.ref a] ∧ SqL K H a (ns.map V.int) ∧ ns.length ≤ 63 ∧ ∀ H', Q (.bl true) H'
abbrev s_law : Stmt := top 40
theorem c_law : FnScope ["_law_script", "_law_bag_here", "_law_way_of", "_law_age_of", "_law_top", "_law_wires", "_law_hops", "_law_buffers_told", "_law_k", "_law_side", "_law_one", "_law_wire", "_law_table", "_law_now_of"] ["_law_script"] (defScope s_law) := ⟨rfl, rfl, rfl, by decide +kernel, rfl, by decide +kernel, by decide +kernel⟩
theorem f_law (F : FunD K "law" "law" (defArgs s_law) (defBody s_law) (defScope s_law) [] [] f fd) (hm : mg "law" = some (.ref f)) {cW cH cB : Addr} (T : Bt mg) (Tdict : mg "dict" = none) (TWire : Ct K mg "Wire" cW ["_way", "_sent"]) (THop : Ct K mg "Hop" cH ["_way", "_age", "_sent"]) (TBuffer : Ct K mg "Buffer" cB ["size", "_water", "_most"]) (RWire : Cr P w K mg base 1 "Wire" cW (spWireInit cW)) (RHop : Cr P w K mg base 1 "Hop" cH (spHopInit cH)) (RBuffer : Cr P w K mg base 1 "Buffer" cB (spBufInit cB K)) (F_law_bag : Fn P w K mg base 1 "_law_bag" (spBag K)) (F_law_draw : Fn P w K mg base 1 "_law_draw" (spDraw K)) (F_law_of : Fn P w K mg base 2 "_law_of" (spOf K)) (F_law_some : Fn P w K mg base 3 "_law_some" (spSome K)) (F_law_same : Fn P w K mg base 4 "_law_same" (spLike K 4)) (F_law_buffer_looks : Fn P w K mg base 5 "_law_buffer_looks" (spLooks cB K)) (F_law_wire_deed : Fn P w K mg base 5 "_law_wire_deed" (spWireDeed cW K)) (F_law_hop_deed : Fn P w K mg base 5 "_law_hop_deed" (spHopDeed cH K)) (F_law_buffer_deed : Fn P w K mg base 7 "_law_buffer_deed" (spBufDeed cB K)) (MWire_copy : Mt P w K mg base 3 cW "copy" (spWireCopy cW K)) (MWire_arriving : Mt P w K mg base 1 cW "arriving" (spArriving cW K)) (MHop_copy : Mt P w K mg base 3 cH "copy" (spHopCopy cH K)) (MHop_sent_after : Mt P w K mg base 3 cH "sent_after" (spSentAfter cH K)) (MBuffer_copy : Mt P w K mg base 3 cB "copy" (spBufCopy cB K)) : FnOk P w K mg base CX0 8 f fd ["_law_script"] (spLaw31 K) := by
  refine ok_def F c_law (fun vs H Q E h => ?_) (fun cdv A outer s H vs Q E hr h => ?_)
  · obtain ⟨a, ns, rfl, _⟩ := h
    rfl
  · obtain ⟨sc, ns, rfl, hl, h63, k⟩ := h
    have nd := c_law.nd
    refine ⟨_, (pss_cons (ps_set (i := 1) nd rfl (by first | exact Or.inl rfl | exact Or.inr rfl) (pe_fn F_law_bag (hr.mono (by decide)) (pa_cons (pv 0) pa_nil)))
      (pss_cons (ps_par3 (i := 2) (j := 3) (l := 4) (by rfl) nd rfl rfl rfl (by decide) (by decide) (by decide) rfl rfl rfl (pa_cons (pe_fn F_law_of (hr.mono (by decide)) (pa_cons (pv 1) (pa_cons (pe_lst (pa_cons pe_int (pa_cons pe_int (pa_cons pe_int (pa_cons pe_int (pa_cons pe_int pa_nil)))))) pa_nil))) (pa_cons (pe_fn F_law_of (hr.mono (by decide)) (pa_cons (pv 1) (pa_cons (pe_lst (pa_cons pe_int (pa_cons pe_int (pa_cons pe_int (pa_cons pe_int pa_nil))))) pa_nil))) (pa_cons (pe_fn F_law_some (hr.mono (by decide)) (pa_cons (pv 1) (pa_cons pe_int pa_nil))) pa_nil))) (by rfl))
      (pss_mid (ps_if (pt_cmpR op_eq (pe_fn F_law_draw (hr.mono (by decide)) (pa_cons (pv 1) (pa_cons pe_int pa_nil))) pe_int (nomark _))
        (pss_one (ps_set (i := 4) nd rfl (by first | exact Or.inl rfl | exact Or.inr rfl) (pe_fn F_law_of (hr.mono (by decide)) (pa_cons (pv 1) (pa_cons (pe_lst (pa_cons (pe_tup (pa_cons pe_int (pa_cons pe_int pa_nil))) (pa_cons (pe_tup (pa_cons pe_int (pa_cons pe_int pa_nil))) (pa_cons (pe_tup (pa_cons (pe_op op_add (pe_op op_pow pe_int pe_int) pe_int) (pa_cons (pe_op op_mul pe_int (pe_op op_pow pe_int pe_int)) pa_nil))) pa_nil)))) pa_nil)))))
        pss_nil)
      (pss_cons (ps_par3 (i := 5) (j := 6) (l := 7) (by rfl) nd rfl rfl rfl (by decide) (by decide) (by decide) rfl rfl rfl (pa_cons (pe_lst (pa_cons (pe_tup (pa_cons (pe_cr RWire (hr.mono (by decide)) (pa_cons (pv 2) pa_nil)) (pa_cons pe_dnewK (pa_cons (pv 2) pa_nil)))) pa_nil)) (pa_cons (pe_lst (pa_cons (pe_lst (pa_cons (pe_cr RHop (hr.mono (by decide)) (pa_cons (pv 2) (pa_cons (pv 3) pa_nil))) (pa_cons pe_dnewK (pa_cons pe_int (pa_cons (pv 2) (pa_cons (pv 3) pa_nil)))))) pa_nil)) (pa_cons (pe_lst pa_nil) pa_nil))) (by rfl))
      (pss_cons (ps_expr (pe_bm PySem.F.plainAttrs_list PySem.F.slot_list_append PySem.F.type_list_append mt_append (pv 7) (pa_cons (pe_lst (pa_cons (pe_cr RBuffer (hr.mono (by decide)) (pa_cons (pv 4) pa_nil)) (pa_cons (pe_tup (pa_cons pe_int (pa_cons pe_int pa_nil))) (pa_cons (pe_tup (pa_cons pe_int (pa_cons pe_int pa_nil))) (pa_cons (pv 4) pa_nil))))) pa_nil)))
      (pss_cons (ps_if (PW.pt (pw_or (pt_not (pt_val (pe_fn F_law_buffer_looks (hr.mono (by decide)) (pa_cons (pe_ix ix_list (pv 7) pe_int (fun _ _ => rfl)) pa_nil)))) (pw_or1 (pt_not (pt_val (pe_fn F_law_same (hr.mono (by decide)) (pa_cons (pe_mt MHop_sent_after (hr.mono (by decide)) (pe_ix ix_list (pe_ix ix_list (pv 6) pe_int (fun _ _ => rfl)) pe_int (fun _ _ => rfl)) (pa_cons (pe_un un_neg pe_int) (pa_cons pe_int pa_nil))) (pa_cons (pe_tup (pa_cons pe_int (pa_cons pe_int pa_nil))) pa_nil))))))))
        (pss_one (ps_ret pe_bl))
        pss_nil)
      (pss_cons (ps_for PassesOwn.never rfl (pi_range1 rfl T.range (pa_cons (pe_op op_add pe_int (pe_fn F_law_draw (hr.mono (by decide)) (pa_cons (pv 1) (pa_cons pe_int pa_nil)))) pa_nil)) (pg_name (i := 8) nd rfl (by first | exact Or.inl rfl | exact Or.inr rfl))
        (pss_cons (ps_set (i := 9) nd rfl (by first | exact Or.inl rfl | exact Or.inr rfl) (pe_fn F_law_of (hr.mono (by decide)) (pa_cons (pv 1) (pa_cons (pv 5) pa_nil))))
        (pss_cons (ps_if (PW.pt (pw_or (pt_not (pt_val (pe_fn F_law_wire_deed (hr.mono (by decide)) (pa_cons (pv 1) (pa_cons (pv 9) pa_nil))))) (pw_or1 (pt_not (pt_val (pe_fn F_law_hop_deed (hr.mono (by decide)) (pa_cons (pv 1) (pa_cons (pe_fn F_law_of (hr.mono (by decide)) (pa_cons (pv 1) (pa_cons (pv 6) pa_nil))) pa_nil))))))))
          (pss_one (ps_ret pe_bl))
          pss_nil)
        (pss_cons (ps_if (pt_not (pt_val (pe_fn F_law_buffer_deed (hr.mono (by decide)) (pa_cons (pv 1) (pa_cons (pe_fn F_law_of (hr.mono (by decide)) (pa_cons (pv 1) (pa_cons (pv 7) pa_nil))) pa_nil)))))
          (pss_one (ps_ret pe_bl))
          pss_nil)
        (pss_cons (ps_if (pt_not (pt_val (pe_callB (cr_all rfl) (by rfl) T.all (by decide +kernel) (pa_cons (pe_lc (own := [("_law_one", 10)]) (g := gName 10) rfl nd (pi_list (pv 7)) (blkOk_by (N := ["_law_script", "_law_bag_here", "_law_way_of", "_law_age_of", "_law_top", "_law_wires", "_law_hops", "_law_buffers_told", "_law_k", "_law_side", "_law_one", "_law_wire", "_law_table", "_law_now_of"]) (sc := defScope s_law) (by decide +kernel)) (fun _ _ _ _ _ => pg_name (i := 10) nd rfl (Or.inl rfl)) (fun _ _ _ _ _ => pts_nil) (fun _ _ _ _ _ => (pe_fn F_law_buffer_looks (hr.mono (by decide)) (pa_cons (pv 10) pa_nil)))) pa_nil))))
          (pss_one (ps_ret pe_bl))
          pss_nil)
        (pss_one (ps_if (PW.pt (pw_and (pt_cmpR op_lt (pe_callB cr_len (by rfl) T.len (by decide +kernel) (pa_cons (pv 5) pa_nil)) pe_int (nomark _)) (pw_and1 (pt_cmpR op_eq (pe_fn F_law_draw (hr.mono (by decide)) (pa_cons (pv 1) (pa_cons pe_int pa_nil))) pe_int (nomark _)))))
          (pss_cons (ps_expr (pe_bm PySem.F.plainAttrs_list PySem.F.slot_list_append PySem.F.type_list_append mt_append (pv 5) (pa_cons (pe_tup (pa_cons (pe_mt0 MWire_copy (hr.mono (by decide)) (pe_ix ix_tup (pv 9) pe_int (fun _ _ => rfl))) (pa_cons (pe_callTy call_dictD (by rfl) Tdict (by decide +kernel) (pa_cons (pe_ix ix_tup (pv 9) pe_int (fun _ _ => rfl)) pa_nil)) (pa_cons (pv 2) pa_nil)))) pa_nil)))
          (pss_cons (ps_set (i := 10) nd rfl (by first | exact Or.inl rfl | exact Or.inr rfl) (pe_fn F_law_of (hr.mono (by decide)) (pa_cons (pv 1) (pa_cons (pv 6) pa_nil))))
          (pss_cons (ps_expr (pe_bm PySem.F.plainAttrs_list PySem.F.slot_list_append PySem.F.type_list_append mt_append (pv 6) (pa_cons (pe_lst (pa_cons (pe_mt0 MHop_copy (hr.mono (by decide)) (pe_ix ix_list (pv 10) pe_int (fun _ _ => rfl))) (pa_cons (pe_callTy call_dictD (by rfl) Tdict (by decide +kernel) (pa_cons (pe_ix ix_list (pv 10) pe_int (fun _ _ => rfl)) pa_nil)) (pa_cons (pe_ix ix_list (pv 10) pe_int (fun _ _ => rfl)) (pa_cons (pv 2) (pa_cons (pv 3) pa_nil)))))) pa_nil)))
          (pss_cons (ps_set (i := 10) nd rfl (by first | exact Or.inl rfl | exact Or.inr rfl) (pe_fn F_law_of (hr.mono (by decide)) (pa_cons (pv 1) (pa_cons (pv 7) pa_nil))))
          (pss_one (ps_expr (pe_bm PySem.F.plainAttrs_list PySem.F.slot_list_append PySem.F.type_list_append mt_append (pv 7) (pa_cons (pe_lst (pa_cons (pe_mt0 MBuffer_copy (hr.mono (by decide)) (pe_ix ix_list (pv 10) pe_int (fun _ _ => rfl))) (pa_cons (pe_ix ix_list (pv 10) pe_int (fun _ _ => rfl)) (pa_cons (pe_ix ix_list (pv 10) pe_int (fun _ _ => rfl)) (pa_cons (pv 4) pa_nil))))) pa_nil))))))))
          pss_nil)))))))
      (pss_cons (ps_for PassesOwn.never rfl (pi_list (pv 5)) (pg_tup rfl (pgs_cons (pg_name (i := 11) nd rfl (by first | exact Or.inl rfl | exact Or.inr rfl)) (pgs_cons (pg_name (i := 12) nd rfl (by first | exact Or.inl rfl | exact Or.inr rfl)) (pgs_cons (pg_name (i := 2) nd rfl (by first | exact Or.inl rfl | exact Or.inr rfl)) pgs_nil))))
        (pss_one (ps_for PassesOwn.never rfl (pi_range2 rfl T.range (pa_cons (pe_un un_neg pe_int) (pa_cons pe_int pa_nil))) (pg_name (i := 13) nd rfl (by first | exact Or.inl rfl | exact Or.inr rfl))
          (pss_one (ps_if (pt_not (pt_val (pe_fn F_law_same (hr.mono (by decide)) (pa_cons (pe_mt MWire_arriving (hr.mono (by decide)) (pv 11) (pa_cons (pv 13) pa_nil)) (pa_cons (pe_dget2 (hu_of hr) (pv 12) (pe_op op_sub (pv 13) (pv 2)) (pe_tup (pa_cons pe_int (pa_cons pe_int pa_nil))) ⟨by rfl, by rfl, by rfl, by rfl⟩) pa_nil)))))
            (pss_one (ps_ret pe_bl))
            pss_nil)))))
      (pss_one (ps_ret pe_bl)))))))))), ?_⟩
    show (_ : TS) _ [some _, none, none, none, none, none, none, none, none, none, none, none, none, none] _
    try dsimp only [cxOf, Cx.nox]
    walk_at "go"
    refine ⟨sc, ns, rfl, hl, h63, fun b H1 hn e1 b1 => ?_⟩
    walk_at "go"
    rename_i p1 hp1
    refine of_intN (ns := [1, 2, 3, 5, 20]) (b1.new hp1) lstS (b1.ne hp1) (Nat.zero_lt_succ _) (show 5 ≤ 4000 by decide) fun way H2 hw b2 n2 => ?_
    have w5 : 1 ≤ way ∧ way ≤ 20 := (show ∀ x ∈ ([1, 2, 3, 5, 20] : List Int), 1 ≤ x ∧ x ≤ 20 by decide) way hw
    walk_at "go"
    rename_i p2 hp2
    refine of_intN (ns := [1, 2, 3, 12]) (b2.new hp2) lstS (b2.ne hp2) (Nat.zero_lt_succ _) (show 4 ≤ 4000 by decide) fun age H3 ha b3 n3 => ?_
    have a4 : 1 ≤ age ∧ age ≤ 12 := (show ∀ x ∈ ([1, 2, 3, 12] : List Int), 1 ≤ x ∧ x ≤ 12 by decide) age ha
    clear n2 n3 hw ha hp1 hp2
    obtain ⟨wn, rfl⟩ : ∃ wn : Nat, way = (wn : Int) := ⟨way.toNat, by omega⟩
    obtain ⟨ag, rfl⟩ : ∃ ag : Nat, age = (ag : Int) := ⟨age.toNat, by omega⟩
    walk_at "go"
    refine ⟨b, 30, rfl, b3, by decide, fun v0 q0 H4 a0 i0 b4 n4 => ?_⟩
    clear n4
    walk_at "go"
    try refine ⟨_, _, _, rfl, ?_⟩
    walk_at "go"
    refine r_mid (fun σ' H' => ∃ (vt : V) (top : Rat), σ' = [some (.ref sc), some (.ref b.a), some (.int (wn : Int)), some (.int (ag : Int)), some vt, none, none, none, none, none, none, none, none, none] ∧ BagAt K H' b ∧ Am K H' vt top ∧ In (Xk 0) 1000000 top) ?_ ?_
    · walk_at "go"
      refine k_draw b4 (by decide) (by decide) fun x5 H5 l5 u5 b5 n5 => ?_
      have a05 := a0.b b4 n5
      walk_at "go"
      refine r_dec (fun hz => ?_) (fun hz => ?_)
      · have cm3 : CMul 3 (10 ^ Int.toNat 24) := Or.inl ⟨by decide, by decide⟩
        have e25 : (10 : Int) ^ Int.toNat 25 + 1 = 10000000000000000000000001 := by decide +kernel
        have e24 : (3 : Int) * 10 ^ Int.toNat 24 = 3000000000000000000000000 := by decide +kernel
        walk_at "go"
        rw [e25, e24]
        refine of_am (qs := [0, ((1000000 : Nat) : Rat), ⟨10000000000000000000000001, 3000000000000000000000000, by decide +kernel, by decide +kernel⟩]) (by walk_at "bag") lstS (BagAt.ne' (K := K) (by assumption) (by walk_at "bag")) ?_ (show 0 < 3 by decide) (show 3 ≤ 4000 by decide) fun vt top H6 hq at6 b6 n6 => ?_
        · exact Ams.cons ⟨_, rfl, by walk_at "sq"⟩ (Ams.cons (am_nat (by walk_at "sq")) (Ams.cons (am_lit _ _ (by walk_at "sq")) Ams.nil))
        walk_at "go"
        refine ⟨vt, top, rfl, b6, at6, ?_⟩
        simp only [List.mem_cons, List.not_mem_nil, or_false] at hq
        rcases hq with rfl | rfl | rfl
        · exact In.zero
        · exact In.nat (by decide)
        · rw [big_top]
          exact In.frac (by decide) (by decide +kernel) (by decide)
      · walk_at "go"
        exact ⟨v0, q0, rfl, b5, a05, (i0.up (Nat.dvd_trans (by decide) (Xk3 0))).most (by decide)⟩
    · rintro σ' H5 ⟨vt, top, rfl, b5, at5, it⟩
      walk_at "go"
      refine mkW (K := K) fun aw d H6 e6 naw nd6 nda w6 => ?_
      walk_at "go"
      rename_i tb ntb t nt Lw nLw
      have A5 : Alc H5 [b.a] := by
        obtain ⟨l0, h0⟩ := b5.lst
        exact ⟨fun x hx => by rw [List.mem_singleton.mp hx]; exact ne_none h0, by simp⟩
      obtain ⟨dxw, hiw⟩ := w6.ins
      obtain ⟨ldw, hdw⟩ := w6.dk
      have A6 : Alc H6 [aw, d, b.a] := by
        have B := A5.add nd6 e6 (ne_none hdw)
        refine ⟨fun x hx => ?_, List.nodup_cons.mpr ⟨fun z => ?_, B.nd⟩⟩
        · rcases List.mem_cons.mp hx with rfl | hx
          · exact ne_none hiw
          · exact B.all x hx
        · rcases List.mem_cons.mp z with z | z
          · exact nda z.symm
          · exact A5.all aw z naw
      have f1 : Ext [] H6 (upd H6 tb (.dK [])) := Ext.refl.new ntb
      have A7 := A6.add ntb f1 (by rw [upd_same]; simp)
      have f2 : Ext [] (upd H6 tb (.dK [])) (upd (upd H6 tb (.dK [])) t (.tup [.ref aw, .ref tb, .int (wn : Int)])) := Ext.refl.new nt
      have f3 : Ext [] (upd (upd H6 tb (.dK [])) t (.tup [.ref aw, .ref tb, .int (wn : Int)])) (upd (upd (upd H6 tb (.dK [])) t (.tup [.ref aw, .ref tb, .int (wn : Int)])) Lw (.lst [.ref t])) := Ext.refl.new nLw
      have A8 := (A7.x0 f2).add nLw f3 (by rw [upd_same]; simp)
      have htb8 : upd (upd (upd H6 tb (.dK [])) t (.tup [.ref aw, .ref tb, .int (wn : Int)])) Lw (.lst [.ref t]) tb = some (.dK []) := f3 _ _ (f2 _ _ upd_same fun z => nomatch z) fun z => nomatch z
      have ht8 : SqT K (upd (upd (upd H6 tb (.dK [])) t (.tup [.ref aw, .ref tb, .int (wn : Int)])) Lw (.lst [.ref t])) t [.ref aw, .ref tb, .int (wn : Int)] := tup0 f3 tupS
      have hLw8 : upd (upd (upd H6 tb (.dK [])) t (.tup [.ref aw, .ref tb, .int (wn : Int)])) Lw (.lst [.ref t]) Lw = some (.lst [.ref t]) := upd_same
      have e68 := f1.trans (f2.trans f3)
      generalize upd (upd (upd H6 tb (.dK [])) t (.tup [.ref aw, .ref tb, .int (wn : Int)])) Lw (.lst [.ref t]) = H8 at *
      have w8 := w6.x0 e68
      have b8 := b5.x0 (e6.trans e68)
      have at8 := at5.x0 (e6.trans e68)
      clear f1 f2 f3 A5 A6 A7 w6 b5 at5 hiw hdw ntb nt nLw
      have S8 : ∀ s ∈ [tb, d], H8 s ≠ none := fun s hs => A8.all s (by simp at hs ⊢; grind)
      refine mkH (K := K) S8 fun ah H9 e9 nah h9 => ?_
      walk_at "go"
      rename_i tbh ntbh lh nlh Lh nLh Lb nLb
      obtain ⟨dxh, dh, lih, hih, _⟩ := id h9
      have A9 := A8.add nah e9 (ne_none hih)
      have f1 : Ext [] H9 (upd H9 tbh (.dK [])) := Ext.refl.new ntbh
      have B1 := A9.add ntbh f1 (by rw [upd_same]; simp)
      have f2 : Ext [] (upd H9 tbh (.dK [])) (upd (upd H9 tbh (.dK [])) lh (.lst [.ref ah, .ref tbh, .int 0, .int (wn : Int), .int (ag : Int)])) := Ext.refl.new nlh
      have B2 := B1.add nlh f2 (by rw [upd_same]; simp)
      have f3 : Ext [] (upd (upd H9 tbh (.dK [])) lh (.lst [.ref ah, .ref tbh, .int 0, .int (wn : Int), .int (ag : Int)])) (upd (upd (upd H9 tbh (.dK [])) lh (.lst [.ref ah, .ref tbh, .int 0, .int (wn : Int), .int (ag : Int)])) Lh (.lst [.ref lh])) := Ext.refl.new nLh
      have B3 := B2.add nLh f3 (by rw [upd_same]; simp)
      have f4 : Ext [] (upd (upd (upd H9 tbh (.dK [])) lh (.lst [.ref ah, .ref tbh, .int 0, .int (wn : Int), .int (ag : Int)])) Lh (.lst [.ref lh])) (upd (upd (upd (upd H9 tbh (.dK [])) lh (.lst [.ref ah, .ref tbh, .int 0, .int (wn : Int), .int (ag : Int)])) Lh (.lst [.ref lh])) Lb (.lst [])) := Ext.refl.new nLb
      have B4 := B3.add nLb f4 (by rw [upd_same]; simp)
      have h9' : HopAt cH K H9 [tbh, tb, d] ah (wn : Int) (ag : Int) [] := by
        obtain ⟨dx, d2, l, g1, g2, g3, g4⟩ := h9
        refine ⟨dx, d2, l, g1, g2, g3, fun z => ?_⟩
        rcases List.mem_cons.mp z with z | z
        · rw [z, ntbh] at g2; cases g2
        · exact g4 z
      have hLb10 : upd (upd (upd (upd H9 tbh (.dK [])) lh (.lst [.ref ah, .ref tbh, .int 0, .int (wn : Int), .int (ag : Int)])) Lh (.lst [.ref lh])) Lb (.lst []) Lb = some (.lst []) := upd_same
      have hLh10 := f4 Lh (.lst [.ref lh]) upd_same fun z => nomatch z
      have hlh10 := (f3.trans f4) lh (.lst [.ref ah, .ref tbh, .int 0, .int (wn : Int), .int (ag : Int)]) upd_same fun z => nomatch z
      have htbh10 := (f2.trans (f3.trans f4)) tbh (.dK []) upd_same fun z => nomatch z
      have e910 := f1.trans (f2.trans (f3.trans f4))
      have nLb9 : H9 Lb = none := (f1.trans (f2.trans f3)).free nLb
      have b9 := b8.x0 e9
      generalize upd (upd (upd (upd H9 tbh (.dK [])) lh (.lst [.ref ah, .ref tbh, .int 0, .int (wn : Int), .int (ag : Int)])) Lh (.lst [.ref lh])) Lb (.lst []) = H10 at *
      have e810 := e9.trans e910
      have h10 := h9'.x0 e910
      have w10 := w8.x0 e810
      have b10 := b8.x0 e810
      have at10 := at8.x0 e810
      have htb10 := e810 _ _ htb8 fun z => nomatch z
      have ht10 := tup0 e810 ht8
      have hLw10 := e810 _ _ hLw8 fun z => nomatch z
      clear f1 f2 f3 f4 B1 B2 B3 A9 A8 h9 h9' w8 b8 at8 htb8 ht8 hLw8 hih ntbh nlh nLh nLb S8
      refine ⟨_, _, _, rfl, ?_⟩
      walk_at "go"
      refine ⟨.inl ⟨rfl, _, .inl (.inl hLb10)⟩, ?_⟩
      walk_at "go"
      refine mkB (K := K) at10 fun bb H11 e11 nbb u11 => ?_
      walk_at "go"
      rename_i z1 nz1 z2 nz2 lb nlb
      obtain ⟨dxb, fsb, hib⟩ := u11.ins
      have A11 := B4.add nbb e11 (ne_none hib)
      have f1 : Ext [] H11 (upd H11 z1 (.tup [.int 0, .int 1])) := Ext.refl.new nz1
      have f2 : Ext [] (upd H11 z1 (.tup [.int 0, .int 1])) (upd (upd H11 z1 (.tup [.int 0, .int 1])) z2 (.tup [.int 0, .int 1])) := Ext.refl.new nz2
      have f3 : Ext [] (upd (upd H11 z1 (.tup [.int 0, .int 1])) z2 (.tup [.int 0, .int 1])) (upd (upd (upd H11 z1 (.tup [.int 0, .int 1])) z2 (.tup [.int 0, .int 1])) lb (.lst [.ref bb, .ref z1, .ref z2, vt])) := Ext.refl.new nlb
      have A12 := ((A11.x0 f1).x0 f2).add nlb f3 (by rw [upd_same]; simp)
      have hlb12 : upd (upd (upd H11 z1 (.tup [.int 0, .int 1])) z2 (.tup [.int 0, .int 1])) lb (.lst [.ref bb, .ref z1, .ref z2, vt]) lb = some (.lst [.ref bb, .ref z1, .ref z2, vt]) := upd_same
      have az1 : Am K (upd (upd (upd H11 z1 (.tup [.int 0, .int 1])) z2 (.tup [.int 0, .int 1])) lb (.lst [.ref bb, .ref z1, .ref z2, vt])) (.ref z1) 0 := ⟨z1, rfl, tup0 (f2.trans f3) tupS⟩
      have az2 : Am K (upd (upd (upd H11 z1 (.tup [.int 0, .int 1])) z2 (.tup [.int 0, .int 1])) lb (.lst [.ref bb, .ref z1, .ref z2, vt])) (.ref z2) 0 := ⟨z2, rfl, tup0 f3 tupS⟩
      have e1112 := f1.trans (f2.trans f3)
      generalize upd (upd (upd H11 z1 (.tup [.int 0, .int 1])) z2 (.tup [.int 0, .int 1])) lb (.lst [.ref bb, .ref z1, .ref z2, vt]) = H12 at *
      have e1012 := e11.trans e1112
      have hLb12 := e1012 _ _ hLb10 fun z => nomatch z
      walk_at "go"
      refine r_app hLb12 (show 0 ≤ 4000 by decide) ?_
      have e13 : Ext [Lb] H12 (upd H12 Lb (.lst ([] ++ [.ref lb]))) := Ext.refl.at_ List.mem_cons_self
      have hLb13 : upd H12 Lb (.lst ([] ++ [.ref lb])) Lb = some (.lst [.ref lb]) := upd_same
      have nd := A12.nd
      have nt13 := no_lst hLb12
      have b13 : BagAt K (upd H12 Lb (.lst ([] ++ [.ref lb]))) b := BagAt.own b9 nLb9 (b10.x0 e1012)
      simp only [List.nodup_cons, List.mem_cons, List.not_mem_nil, or_false, not_or] at nd
      have S13 : S3t cW cH cB K b wn ag top Lw Lh Lb [tbh, tb, d] 0 0 (Xk 0) [⟨t, aw, tb, d, []⟩] [⟨lh, ah, tbh, 0, [], []⟩] [⟨lb, bb, 0, 0⟩] (upd H12 Lb (.lst ([] ++ [.ref lb]))) := by
        refine S3t.one A12.nd b13 (e13 _ _ (e1012 _ _ hLw10 fun z => nomatch z) (by simp; grind)) (e13 _ _ (e1012 _ _ hLh10 fun z => nomatch z) (by simp; grind)) hLb13 ?_ ?_ ?_
        · exact ⟨tupF e13 (tup0 e1012 ht10) nt13, (w10.x0 e1012).f e13 (by simp; grind) (by simp; grind) nt13, ⟨[], e13 _ _ (e1012 _ _ htb10 fun z => nomatch z) (by simp; grind), .nil⟩, List.Pairwise.nil, (fun _ z => nomatch z), Nat.le_refl _, by show d ≠ tb; grind⟩
        · exact ⟨e13 _ _ (e1012 _ _ hlh10 fun z => nomatch z) (by simp; grind), (h10.x0 e1012).f e13 (fun x hx => ⟨by rw [List.mem_singleton.mp hx]; show Lb ≠ ah; grind, (gt_lst (S := [tbh, tb, d]) hLb12) x hx⟩), ⟨[], e13 _ _ (e1012 _ _ htbh10 fun z => nomatch z) (by simp; grind), .nil⟩, ⟨List.Pairwise.nil, List.Pairwise.nil, (fun _ _ => rfl), (fun _ z => nomatch z), (fun _ z => nomatch z), Nat.le_refl _, Nat.le_refl _⟩⟩
        · exact ⟨.ref z1, .ref z2, vt, e13 _ _ hlb12 (by simp; grind), (u11.x0 e1112).f e13 (by simp; grind) nt13, az1.f e13 nt13, az2.f e13 nt13, (at10.x0 e1012).f e13 nt13, it.nn, Rat.le_refl, In.zero, In.zero, it⟩
      have at13' := (at10.x0 e1012).f e13 nt13
      clear A12 nd B4 A11 e13 nt13 b13 az1 az2 hlb12 hLb12 u11 h10 w10 b10 at10 htb10 ht10 hLw10 hLh10 hlh10 htbh10 b9 nLb9 hib hLb10
      generalize upd H12 Lb (.lst ([] ++ [.ref lb])) = H13 at *
      have sLb : SqL K H13 Lb [.ref lb] := .inl (.inl S13.lb)
      have at13 : Am K H13 vt top := at13'
      clear at13'
      walk_at "go"
      refine ⟨Xk 0, lb, bb, top, 0, 0, rfl, S13.u 0 _ rfl, fun H14 e14 => ?_⟩
      have S14 := S13.x0 e14
      have at14 := at13.x0 e14
      have sLh : SqL K H14 Lh [.ref lh] := .inl (.inl S14.lh)
      have slh : SqL K H14 lh [.ref ah, .ref tbh, .int 0, .int (wn : Int), .int (ag : Int)] := .inl (.inl (S14.h 0 _ rfl).1)
      have hh14 := (S14.h 0 _ rfl).2.1
      obtain ⟨dxh, dh, lhh, hih, _⟩ := id hh14
      walk_at "run"
      refine ⟨[tbh, tb, d], ah, (wn : Int), (ag : Int), [], -3, 9, 30, 30, rfl, hh14, (fun _ z => nomatch z), by decide, by decide +kernel, by decide, by decide +kernel, fun v15 H15 e15 a15 => ?_⟩
      have a15' : Am K H15 v15 0 := a15
      walk_at "go"
      rename_i z0 nz0
      have e16 : Ext [] H15 (upd H15 z0 (.tup [.int 0, .int 1])) := Ext.refl.new nz0
      have az0 : Am K (upd H15 z0 (.tup [.int 0, .int 1])) (.ref z0) 0 := ⟨z0, rfl, tupS⟩
      generalize upd H15 z0 (.tup [.int 0, .int 1]) = H16 at *
      refine k_like ((a15'.x0 e16).eqd 2 az0) fun H17 e17 => ?_
      have e1417 := e15.trans (e16.trans e17)
      have S17 := S14.x0 e1417
      have at17 := at14.x0 e1417
      clear S14 S13 at13 at14 a15 a15' az0 hh14 slh sLh sLb hih e14 e15 e16 e17
      walk_at "run"
      refine r_for ?_
      walk_at "go"
      refine k_draw S17.bag (by decide) (by decide) fun n0 H18 l18 u18 b18 n18 => ?_
      walk_at "go"
      refine ⟨_, rfl, by omega, by omega, ?_⟩
      refine r_loopR (fun j σ' H' => ∃ (S : List Addr) (ws : List WR) (hs : List HR) (bs : List BR) (u8 u9 u10 u11 u12 u13 : Option V), σ' = [some (.ref sc), some (.ref b.a), some (.int (wn : Int)), some (.int (ag : Int)), some vt, some (.ref Lw), some (.ref Lh), some (.ref Lb), u8, u9, u10, u11, u12, u13] ∧ S3t cW cH cB K b wn ag top Lw Lh Lb S j j (Xk j) ws hs bs H' ∧ Am K H' vt top ∧ 0 < ws.length ∧ ws.length ≤ 3 ∧ 0 < hs.length ∧ hs.length ≤ j + 1 ∧ 0 < bs.length ∧ bs.length ≤ j + 1) ⟨_, _, _, _, _, _, _, _, _, _, rfl, S17.bg n18 b18, at17.b S17.bag n18, by simp, by simp, by simp, by simp, by simp, by simp⟩ ?_ ?_
      · clear S17 at17
        rintro j σ' H1 hj ⟨S, ws, hs, bs, u8, u9, u10, u11, u12, u13, rfl, S1, at1, lw0, lw3, lh0, lh3, lb0, lb3⟩
        have hj40 : j ≤ 40 := by omega
        have nb := S1.nb
        simp only [List.nodup_cons, List.mem_cons, List.not_mem_nil, or_false, not_or] at nb
        have nLw : b.a ≠ Lw := by grind
        have nLh : b.a ≠ Lh := by grind
        have nLb : b.a ≠ Lb := by grind
        walk_at "go"
        refine ⟨b, Lw, _, rfl, S1.bag, .inl (.inl S1.lw), nLw, by rw [List.length_map]; omega, by rw [List.length_map]; omega, fun i x H2 hx b2 n2 => ?_⟩
        obtain ⟨r, hr, rfl⟩ := get_map hx
        have S2 := S1.bg n2 b2
        have at2 := at1.b S1.bag n2
        walk_at "go"
        obtain ⟨g1, g2, g3, g4, g5, g6, g7⟩ := S2.w i r hr
        refine ⟨b, r.t, r.aw, r.tb, r.d, wn, r.c, rfl, b2, g1, g2, g3, g4, g5, by omega, by omega, by omega, g7, fun H3 c1 e3 b3 w3 t3 nd3 in3 l3 => ?_⟩
        have S3 := S2.wire hr e3 b3 (c1 := c1) ⟨S2.tup_wire hr e3 g1, w3, t3, nd3, in3, by show c1.length ≤ j + 1; omega, g7⟩
        have at3 := S2.am_wire hr e3 at2
        clear S1 S2 at1 at2 w3 t3 g1 g2 g3 n2 e3
        walk_at "run"
        refine ⟨b, Lh, _, rfl, S3.bag, .inl (.inl S3.lh), nLh, by rw [List.length_map]; omega, by rw [List.length_map]; omega, fun i2 x H4 hx2 b4 n4 => ?_⟩
        obtain ⟨rh, hrh, rfl⟩ := get_map hx2
        have S4 := S3.bg n4 b4
        have at4 := at3.b S3.bag n4
        walk_at "run"
        obtain ⟨g1, g2, g3, g4⟩ := S4.h i2 rh hrh
        refine ⟨b, S, rh.l, rh.ah, rh.tb, (wn : Int), (ag : Int), rh.N, j, rh.c, rh.c', rfl, b4, fun z => S4.bh i2 rh hrh b.a (by simp) (by rw [z]; simp [HR.own]), g1, g2, g3, g4, S4.sh i2 rh hrh, S4.s0, by omega, by omega, by omega, by omega, by omega, fun H5 N5 c2 c3 e5 b5 g5 g6 g7 g8 => ?_⟩
        have S5 := S4.hop hrh e5 b5 (N1 := N5) (c1 := c2) (c2 := c3) ⟨g5, g6, g7, g8⟩
        have at5 := S4.am_hop hrh e5 at4
        clear S3 S4 at3 at4 g1 g2 g3 g4 g5 g6 g7 n4 e5
        walk_at "run"
        refine ⟨b, Lb, _, rfl, S5.bag, .inl (.inl S5.lb), nLb, by rw [List.length_map]; omega, by rw [List.length_map]; omega, fun i3 x H6 hx3 b6 n6 => ?_⟩
        obtain ⟨rb, hrb, rfl⟩ := get_map hx3
        have S6 := S5.bg n6 b6
        have at6 := at5.b S5.bag n6
        walk_at "run"
        refine ⟨b, Xk j, rb.l, rb.bb, top, rb.q, rb.m, rfl, b6, fun z => S6.bu i3 rb hrb b.a (by simp) (by rw [z]; simp [BR.own]), S6.u i3 rb hrb, Xk0 j, Xk32 (by omega), Xk3 j, fun H7 q7 m7 e7 b7 g7 => ?_⟩
        have S7 := S6.buf hrb e7 b7 (q1 := q7) (m1 := m7) g7
        rw [← Xk1] at S7
        have at7 := S6.am_buf hrb e7 at6
        clear S5 S6 at5 at6 g7 n6 e7
        obtain ⟨ws', ews⟩ : ∃ z, z = ws.set i { r with c := c1 } := ⟨_, rfl⟩
        obtain ⟨hs', ehs⟩ : ∃ z, z = hs.set i2 { rh with N := N5, c := c2, c' := c3 } := ⟨_, rfl⟩
        obtain ⟨bs', ebs⟩ : ∃ z, z = bs.set i3 { rb with q := q7, m := m7 } := ⟨_, rfl⟩
        rw [← ews, ← ehs, ← ebs] at S7
        have lw' : ws'.length = ws.length := by rw [ews, List.length_set]
        have lh' : hs'.length = hs.length := by rw [ehs, List.length_set]
        have lb' : bs'.length = bs.length := by rw [ebs, List.length_set]
        have hr' : ws'[i]? = some { r with c := c1 } := by
          rw [ews, List.getElem?_set, if_pos rfl, if_pos (List.getElem?_eq_some_iff.mp hr).1]
        walk_at "run"
        refine ⟨Lb, rfl, ⟨_, .inl (.inl S7.lb)⟩, fun D hD => ?_⟩
        refine r_lcL (xs := bs'.map fun r => V.ref r.l) (fun i H1 => Ext [] H7 H1 ∧ H1 D = some (.lst ((List.replicate i true).map V.bl))) ⟨Ext.refl.new hD, upd_same⟩ (fun i H1 _ p => lst0 p.1 (.inl (.inl S7.lb))) ?_ ?_
        · rintro i4 x H8 hx ⟨e8, hD8⟩
          have hi : i4 < bs'.length := by
            have := (List.getElem?_eq_some_iff.mp hx).1
            rwa [List.length_map] at this
          obtain ⟨rb2, hrb2, rfl⟩ := get_map hx
          walk_at "run"
          refine ⟨rfl, ?_⟩
          walk_at "run"
          refine ⟨Xk (j + 1), rb2.l, rb2.bb, top, rb2.q, rb2.m, rfl, (S7.x0 e8).u i4 rb2 hrb2, fun H9 e9 => ?_⟩
          have hD9 := e9 _ _ hD8 fun z => nomatch z
          refine ⟨_, hD9, ?_, (e8.trans e9).own hD, ?_⟩
          · rw [List.length_map, List.length_replicate]
            exact Nat.lt_of_le_of_lt (by omega : i4 ≤ 4000) (by decide)
          · rw [List.replicate_succ', List.map_append]
            exact upd_same
        · rintro H8 ⟨e8, hD8⟩
          rw [List.length_map] at hD8
          walk_at "run"
          refine r_all (bs := List.replicate bs'.length true) (.inl (.inl hD8)) ?_
          rw [show (List.replicate bs'.length true).all id = true by simp]
          have S8 := S7.x0 e8
          have at8 := at7.x0 e8
          clear S7 at7 hD8 e8 hD
          have sLw : SqL K H8 Lw (ws'.map fun r => V.ref r.t) := .inl (.inl S8.lw)
          walk_at "run"
          rw [List.length_map]
          refine r_dec (fun hw3 => ?_) (fun hw3 => ?_)
          · walk_at "run"
            refine k_draw S8.bag (by decide) (by decide) fun x9 H9 l9 u9' b9 n9 => ?_
            have S9 := S8.bg n9 b9
            have at9 := at8.b S8.bag n9
            clear S8 at8 sLw
            walk_at "run"
            refine r_dec (fun hz => ?_) (fun hz => ?_)
            · obtain ⟨gt9, gw9, gb9, gn9, gi9, gl9, gd9⟩ := S9.w i _ hr'
              dsimp only at gt9 gw9 gb9 gn9 gi9 gl9 gd9
              obtain ⟨dx9, hi9⟩ := gw9.ins
              walk_at "run"
              refine ⟨.inl ⟨rfl, _, .inl (.inl S9.lw)⟩, ?_⟩
              walk_at "run"
              refine ⟨r.d, r.aw, (wn : Int), c1, rfl, gw9, fun d1 a1 H10 na1 nd1 nda1 e10 w10 => ?_⟩
              have S10 := S9.x0 e10
              have gt10 := tup0 e10 gt9
              obtain ⟨l10, ht10, itl10⟩ := id (S10.w i _ hr').2.2.1
              dsimp only at ht10 itl10
              walk_at "run"
              refine ⟨r.tb, _, rfl, .inl ht10, fun tb1 ntb1 => ?_⟩
              have f1 : Ext [] H10 (upd H10 tb1 (.dK l10)) := Ext.refl.new ntb1
              walk_at "run"
              rename_i t1 nt1
              have f2 : Ext [] (upd H10 tb1 (.dK l10)) (upd (upd H10 tb1 (.dK l10)) t1 (.tup [.ref a1, .ref tb1, .int (wn : Int)])) := Ext.refl.new nt1
              have tabs : TabAt K (upd (upd H10 tb1 (.dK l10)) t1 (.tup [.ref a1, .ref tb1, .int (wn : Int)])) tb1 c1 := ⟨l10, f2 _ _ upd_same (fun z => nomatch z), itl10.imp fun _ _ z => (z.x0 f1).x0 f2⟩
              have tups1 : SqT K (upd (upd H10 tb1 (.dK l10)) t1 (.tup [.ref a1, .ref tb1, .int (wn : Int)])) t1 [.ref a1, .ref tb1, .int (wn : Int)] := tupS
              have S12 := (S10.x0 f1).x0 f2
              have nd1t : d1 ≠ tb1 := fun z => by
                obtain ⟨ld, hd⟩ := w10.dk
                rw [z, ntb1] at hd
                cases hd
              have hn1 : ∀ x ∈ WR.own ⟨t1, a1, tb1, d1, c1⟩, NewA b Lw Lh Lb ws' hs' bs' x := fun x hx => by
                simp only [WR.own, List.mem_cons, List.not_mem_nil, or_false] at hx
                rcases hx with rfl | rfl | rfl
                · exact S9.fresh na1
                · exact S9.fresh (e10.free ntb1)
                · exact S9.fresh nd1
              have dj0 : ∀ {x : List Addr}, Dj x [] := fun _ _ z => nomatch z
              have gt0 : ∀ {H : Hp} {S : List Addr}, GT H S [] := fun _ z => nomatch z
              have hS1 : ∀ (j' : Nat) (r' : HR), hs'[j']? = some r' → HpOk cH K (upd (upd H10 tb1 (.dK l10)) t1 (.tup [.ref a1, .ref tb1, .int (wn : Int)])) (tb1 :: d1 :: S) (wn : Int) (ag : Int) (j + 1) r' := fun j' r' hj' =>
                (((((S9.h j' r' hj').more nd1).f e10 gt0 dj0).more ntb1).f f1 gt0 dj0).f f2 gt0 dj0
              have SW := S12.addW (r := ⟨t1, a1, tb1, d1, c1⟩) (by omega) hn1 ⟨tups1, (w10.x0 f1).x0 f2, tabs, gn9, gi9, gl9, nd1t⟩ hS1
              have at12 := (((at9.x0 e10).x0 f1).x0 f2)
              have e12 : Ext [Lw] (upd (upd H10 tb1 (.dK l10)) t1 (.tup [.ref a1, .ref tb1, .int (wn : Int)])) (upd (upd (upd H10 tb1 (.dK l10)) t1 (.tup [.ref a1, .ref tb1, .int (wn : Int)])) Lw (.lst ((ws'.map fun r => V.ref r.t) ++ [.ref t1]))) := Ext.refl.at_ List.mem_cons_self
              have at13 := at12.f e12 (no_lst S12.lw)
              refine r_app S12.lw (by rw [List.length_map]; omega) ?_
              generalize upd (upd (upd H10 tb1 (.dK l10)) t1 (.tup [.ref a1, .ref tb1, .int (wn : Int)])) Lw (.lst ((ws'.map fun r => V.ref r.t) ++ [.ref t1])) = H13 at *
              clear S9 S10 S12 at9 at12 e12 tabs tups1 f1 f2 w10 hS1 hn1 ht10 itl10 gt10 gt9 gw9 gb9 hi9 nt1 ntb1 na1 nd1
              walk_at "run"
              refine ⟨b, Lh, _, rfl, SW.bag, .inl (.inl SW.lh), nLh, by rw [List.length_map]; omega, by rw [List.length_map]; omega, fun i5 x H14 hx5 b14 n14 => ?_⟩
              obtain ⟨rh2, hrh2, rfl⟩ := get_map hx5
              have S14 := SW.bg n14 b14
              have at14 := at13.b SW.bag n14
              clear SW at13
              obtain ⟨gl14, gh14, gt14, gi14⟩ := S14.h i5 rh2 hrh2
              have sl14 : SqL K H14 rh2.l [.ref rh2.ah, .ref rh2.tb, .int rh2.N, .int (wn : Int), .int (ag : Int)] := .inl (.inl gl14)
              obtain ⟨dxh, dh, lhh, hih, _⟩ := id gh14
              walk_at "run"
              refine ⟨.inl ⟨rfl, _, .inl (.inl S14.lh)⟩, ?_⟩
              walk_at "run"
              refine ⟨tb1 :: d1 :: S, rh2.ah, (wn : Int), (ag : Int), rh2.c, rfl, gh14, S14.s0, fun a2 H15 na2 e15 h15 => ?_⟩
              have S15 := S14.x0 e15
              obtain ⟨gl15, gh15, ⟨l15, ht15, itl15⟩, gi15⟩ := S15.h i5 rh2 hrh2
              have sl15 : SqL K H15 rh2.l [.ref rh2.ah, .ref rh2.tb, .int rh2.N, .int (wn : Int), .int (ag : Int)] := .inl (.inl gl15)
              walk_at "run"
              refine ⟨rh2.tb, _, rfl, .inl ht15, fun tb2 ntb2 => ?_⟩
              have f1 : Ext [] H15 (upd H15 tb2 (.dK l15)) := Ext.refl.new ntb2
              have sl16 := lst0 f1 sl15
              walk_at "run"
              rename_i l2 nl2
              have f2 : Ext [] (upd H15 tb2 (.dK l15)) (upd (upd H15 tb2 (.dK l15)) l2 (.lst [.ref a2, .ref tb2, .int rh2.N, .int (wn : Int), .int (ag : Int)])) := Ext.refl.new nl2
              have hl2 : upd (upd H15 tb2 (.dK l15)) l2 (.lst [.ref a2, .ref tb2, .int rh2.N, .int (wn : Int), .int (ag : Int)]) l2 = some (.lst [.ref a2, .ref tb2, .int rh2.N, .int (wn : Int), .int (ag : Int)]) := upd_same
              have h15' : HopAt cH K H15 (tb2 :: tb1 :: d1 :: S) a2 (wn : Int) (ag : Int) rh2.c := by
                obtain ⟨dx, d2, l, g1, g2, g3, g4⟩ := h15
                refine ⟨dx, d2, l, g1, g2, g3, fun z => ?_⟩
                rcases List.mem_cons.mp z with z | z
                · rw [z, ntb2] at g2; cases g2
                · exact g4 z
              have tabs : TabAt K (upd (upd H15 tb2 (.dK l15)) l2 (.lst [.ref a2, .ref tb2, .int rh2.N, .int (wn : Int), .int (ag : Int)])) tb2 rh2.c' := ⟨l15, f2 _ _ upd_same (fun z => nomatch z), itl15.imp fun _ _ z => (z.x0 f1).x0 f2⟩
              have S17 := (S15.x0 f1).x0 f2
              have hn2 : ∀ x ∈ HR.own ⟨l2, a2, tb2, rh2.N, rh2.c, rh2.c'⟩, NewA b Lw Lh Lb (ws' ++ [⟨t1, a1, tb1, d1, c1⟩]) hs' bs' x := fun x hx => by
                simp only [HR.own, List.mem_cons, List.not_mem_nil, or_false] at hx
                rcases hx with rfl | rfl | rfl
                · exact S14.fresh ((e15.trans f1).free nl2)
                · exact S14.fresh na2
                · exact S14.fresh (e15.free ntb2)
              have SH := S17.addH (r := ⟨l2, a2, tb2, rh2.N, rh2.c, rh2.c'⟩) (by omega) hn2 ⟨hl2, (h15'.x0 f1).x0 f2, tabs, gi15⟩ fun j' r' hj' => (((S15.h j' r' hj').more ntb2).f f1 gt0 dj0).f f2 gt0 dj0
              have at17 := (((at14.x0 e15).x0 f1).x0 f2)
              have e17 : Ext [Lh] (upd (upd H15 tb2 (.dK l15)) l2 (.lst [.ref a2, .ref tb2, .int rh2.N, .int (wn : Int), .int (ag : Int)])) (upd (upd (upd H15 tb2 (.dK l15)) l2 (.lst [.ref a2, .ref tb2, .int rh2.N, .int (wn : Int), .int (ag : Int)])) Lh (.lst ((hs'.map fun r => V.ref r.l) ++ [.ref l2]))) := Ext.refl.at_ List.mem_cons_self
              have at18 := at17.f e17 (no_lst S17.lh)
              refine r_app S17.lh (by rw [List.length_map]; omega) ?_
              generalize upd (upd (upd H15 tb2 (.dK l15)) l2 (.lst [.ref a2, .ref tb2, .int rh2.N, .int (wn : Int), .int (ag : Int)])) Lh (.lst ((hs'.map fun r => V.ref r.l) ++ [.ref l2])) = H18 at *
              clear S14 S15 S17 at14 at17 e17 tabs f1 f2 h15 h15' hn2 ht15 itl15 gl14 gh14 gt14 gl15 gh15 hih nl2 ntb2 na2 sl14 sl15 sl16 hl2
              walk_at "run"
              refine ⟨b, Lb, _, rfl, SH.bag, .inl (.inl SH.lb), nLb, by rw [List.length_map]; omega, by rw [List.length_map]; omega, fun i6 x H19 hx6 b19 n19 => ?_⟩
              obtain ⟨rb2, hrb2, rfl⟩ := get_map hx6
              have S19 := SH.bg n19 b19
              have at19 := at18.b SH.bag n19
              clear SH at18
              obtain ⟨vh, vm, vt2, gl19, gb19, g3, g4, g5, g6, g7, g8, g9, g10⟩ := S19.u i6 rb2 hrb2
              have sl19 : SqL K H19 rb2.l [.ref rb2.bb, vh, vm, vt2] := .inl (.inl gl19)
              obtain ⟨dxb, vs_, vq_, vm_, hib, _⟩ := id gb19
              walk_at "run"
              refine ⟨.inl ⟨rfl, _, .inl (.inl S19.lb)⟩, ?_⟩
              walk_at "run"
              refine ⟨rb2.bb, top, rb2.q, rb2.m, rfl, gb19, fun a3 H20 na3 e20 b20 => ?_⟩
              have sl20 := lst0 e20 sl19
              walk_at "run"
              rename_i l3 nl3
              have f1 : Ext [] H20 (upd H20 l3 (.lst [.ref a3, vh, vm, vt])) := Ext.refl.new nl3
              have hl3 : upd H20 l3 (.lst [.ref a3, vh, vm, vt]) l3 = some (.lst [.ref a3, vh, vm, vt]) := upd_same
              have S20 := (S19.x0 e20).x0 f1
              have hn3 : ∀ x ∈ BR.own ⟨l3, a3, rb2.q, rb2.m⟩, NewA b Lw Lh Lb (ws' ++ [⟨t1, a1, tb1, d1, c1⟩]) (hs' ++ [⟨l2, a2, tb2, rh2.N, rh2.c, rh2.c'⟩]) bs' x := fun x hx => by
                simp only [BR.own, List.mem_cons, List.not_mem_nil, or_false] at hx
                rcases hx with rfl | rfl
                · exact S19.fresh (e20.free nl3)
                · exact S19.fresh na3
              have at20 := (at19.x0 e20).x0 f1
              have SB := S20.addB (r := ⟨l3, a3, rb2.q, rb2.m⟩) (by omega) hn3 ⟨vh, vm, vt, hl3, b20.x0 f1, (g3.x0 e20).x0 f1, (g4.x0 e20).x0 f1, at20, g6, g7, g8, g9, g10⟩
              have e21 : Ext [Lb] (upd H20 l3 (.lst [.ref a3, vh, vm, vt])) (upd (upd H20 l3 (.lst [.ref a3, vh, vm, vt])) Lb (.lst ((bs'.map fun r => V.ref r.l) ++ [.ref l3]))) := Ext.refl.at_ List.mem_cons_self
              have at21 := at20.f e21 (no_lst S20.lb)
              refine r_app S20.lb (by rw [List.length_map]; omega) ?_
              walk_at "run"
              refine ⟨_, _, _, _, _, _, _, _, _, _, rfl, SB, at21, ?_, ?_, ?_, ?_, ?_, ?_⟩ <;> (simp only [List.length_append, List.length_cons, List.length_nil]; omega)
            · walk_at "run"
              exact ⟨S, ws', hs', bs', _, _, _, _, _, _, rfl, S9, at9, by omega, by omega, by omega, by omega, by omega, by omega⟩
          · walk_at "run"
            exact ⟨S, ws', hs', bs', _, _, _, _, _, _, rfl, S8, at8, by omega, by omega, by omega, by omega, by omega, by omega⟩
      · rintro σ' H1 ⟨S, ws, hs, bs, u8, u9, u10, u11, u12, u13, rfl, S1, at1, lw0, lw3, lh0, lh3, lb0, lb3⟩
        walk_at "go"
        refine r_for ?_
        refine r_iList ?_
        walk_at "go"
        refine ⟨Lw, rfl, ⟨_, .inl (.inl S1.lw)⟩, r_loopL (xs := ws.map fun r => V.ref r.t) (fun i σ H' => ∃ (u8 u9 u10 u11 u12 u13 : Option V), σ = [some (.ref sc), some (.ref b.a), some (.int (wn : Int)), some (.int (ag : Int)), some vt, some (.ref Lw), some (.ref Lh), some (.ref Lb), u8, u9, u10, u11, u12, u13] ∧ Ext [] H1 H') ⟨_, _, _, _, _, _, rfl, Ext.refl⟩ (fun i σ H' _ h => ?_) ?_ ?_⟩
        · obtain ⟨_, _, _, _, _, _, _, e⟩ := h
          exact lst0 e (.inl (.inl S1.lw))
        · rintro i x σ H2 hx ⟨v8, v9, v10, v11, v12, v13, rfl, e2⟩
          obtain ⟨r, hr, rfl⟩ := get_map hx
          have S2 := S1.x0 e2
          obtain ⟨g1, g2, g3, g4, g5, g6, g7⟩ := S2.w i r hr
          walk_at "go"
          refine r_for ?_
          walk_at "go"
          refine ⟨⟨by decide, by decide, by decide, by decide⟩, ?_⟩
          refine r_loopR (fun j σ' H' => ∃ (u13 : Option V), σ' = [some (.ref sc), some (.ref b.a), some (.int (wn : Int)), some (.int (ag : Int)), some vt, some (.ref Lw), some (.ref Lh), some (.ref Lb), v8, v9, v10, some (.ref r.aw), some (.ref r.tb), u13] ∧ Ext [] H2 H') ⟨_, rfl, Ext.refl⟩ ?_ ?_
          · rintro j σ' H3 hj ⟨u13, rfl, e3⟩
            have gw3 := g2.x0 e3
            have gt3 := g3.x0 e3
            obtain ⟨dx3, hi3⟩ := gw3.ins
            obtain ⟨lt3, htb3, itt3⟩ := id gt3
            obtain ⟨now, enow⟩ : ∃ z, z = (-6 : Int) + (j : Int) := ⟨_, rfl⟩
            walk_at "go"
            try rw [← enow]
            refine ⟨r.d, r.aw, (wn : Int), r.c, now, rfl, gw3, fun v6 a6 => ?_⟩
            walk_at "go"
            refine ⟨r.tb, rfl, .inl ⟨lt3, .inl htb3⟩, ?_⟩
            walk_at "go"
            rename_i pz hpz
            have e6 : Ext [] H3 (upd H3 pz (.tup [.int 0, .int 1])) := Ext.refl.new hpz
            have az : Am K (upd H3 pz (.tup [.int 0, .int 1])) (.ref pz) 0 := ⟨pz, rfl, tupS⟩
            have htb6 := e6 _ _ htb3 fun z => nomatch z
            generalize upd H3 pz (.tup [.int 0, .int 1]) = H6 at *
            try rw [← enow]
            refine ⟨_, DGet.k (k := .inl (now - (wn : Int))) htb6, ?_⟩
            have hg := ((gt3.x0 e6).gd (now - (wn : Int)) az)
            obtain ⟨lt6, h6, ag⟩ := hg
            rw [htb6] at h6
            cases h6
            walk_at "go"
            refine k_like ((a6.x0 e6).eqd 2 ag) fun H7 e7 => ?_
            walk_at "run"
            exact ⟨_, rfl, e3.trans (e6.trans e7)⟩
          · rintro σ' H3 ⟨u13, rfl, e3⟩
            walk_at "go"
            exact ⟨_, _, _, _, _, _, rfl, e2.trans e3⟩
        · rintro σ H2 ⟨v8, v9, v10, v11, v12, v13, rfl, e2⟩
          walk_at "go"
          exact k _
end
end Yk

set_option maxHeartbeats 0
namespace YkHead
open PySem PySem.Spec PyProof.Rows L2 Yk
theorem facts {P : Program} {w : World} {K : PySem.W.Frag} {h : Heap} {mg : Str → Option Value} {f : Addr} (X : K.In h) (G : h.Ns mainGlobals mg) (hfa : mg ("law" : Str) = some (.ref f)) (c0 : Hk.Says fa fn ex K) :
    ∃ fd : FuncData, (∀ (s : Shared) (v : Value), BindsTo s fd ⟨[v], []⟩ [("_law_script", v)]) ∧ ∀ base : Heap, K.In base → base.Ns mainGlobals mg → FnOk P w K mg base CX0 8 f fd ["_law_script"] (spLaw31 K) := by
  have c := c0
  have m : ex K = true := c.more
  unfold ex at m
  try simp only [Bool.and_eq_true] at m
  have T0 : Bt mg := ⟨(He.free_ok X G (c.fact 64 (f := .free "int") rfl)), (He.free_ok X G (c.fact 66 (f := .free "len") rfl)), (He.free_ok X G (c.fact 67 (f := .free "list") rfl)), (He.free_ok X G (c.fact 74 (f := .free "tuple") rfl)), (He.free_ok X G (c.fact 72 (f := .free "str") rfl)), (He.free_ok X G (c.fact 61 (f := .free "bool") rfl)), (He.free_ok X G (c.fact 68 (f := .free "max") rfl)), (He.free_ok X G (c.fact 69 (f := .free "min") rfl)), (He.free_ok X G (c.fact 59 (f := .free "all") rfl)), (He.free_ok X G (c.fact 60 (f := .free "any") rfl)), (He.free_ok X G (c.fact 73 (f := .free "sum") rfl)), (He.free_ok X G (c.fact 65 (f := .free "isinstance") rfl)), (He.free_ok X G (c.fact 75 (f := .free "zip") rfl)), (He.free_ok X G (c.fact 71 (f := .free "range") rfl)), (He.free_ok X G (c.fact 63 (f := .free "divmod") rfl))⟩
  have Tdict := (He.free_ok X G (c.fact 62 (f := .free "dict") rfl))
  have T1 : Bg mg := ⟨T0, PySem.W.mg_of X G (He.eqO_ok m.1.1.2)⟩
  have tup_ZERO : ∃ z, mg "ZERO" = some (.ref z) ∧ ∀ H, SqT K H z [.int 0, .int 1] := ⟨He.ga K "ZERO", PySem.W.mg_of X G (He.eqO_ok m.1.2), fun H => He.tupB_ok m.2 H⟩
  have THop : Ct K mg "Hop" (He.ga K "Hop") ["_way", "_age", "_sent"] := ⟨(He.glo_ok X G (c.fact 0 (f := .glo "Hop") rfl)), He.cls_ok (c.fact 1 (f := .cls "Hop") rfl), fun f hf => by
    simp only [List.mem_cons, List.not_mem_nil, or_false] at hf
    rcases hf with rfl | rfl | rfl
    · exact He.noat_ok (c.fact 2 (f := .noat "Hop" "_way") rfl)
    · exact He.noat_ok (c.fact 3 (f := .noat "Hop" "_age") rfl)
    · exact He.noat_ok (c.fact 4 (f := .noat "Hop" "_sent") rfl)⟩
  have TBuffer : Ct K mg "Buffer" (He.ga K "Buffer") ["size", "_water", "_most"] := ⟨(He.glo_ok X G (c.fact 9 (f := .glo "Buffer") rfl)), He.cls_ok (c.fact 10 (f := .cls "Buffer") rfl), fun f hf => by
    simp only [List.mem_cons, List.not_mem_nil, or_false] at hf
    rcases hf with rfl | rfl | rfl
    · exact He.noat_ok (c.fact 11 (f := .noat "Buffer" "size") rfl)
    · exact He.noat_ok (c.fact 12 (f := .noat "Buffer" "_water") rfl)
    · exact He.noat_ok (c.fact 13 (f := .noat "Buffer" "_most") rfl)⟩
  have TWire : Ct K mg "Wire" (He.ga K "Wire") ["_way", "_sent"] := ⟨(He.glo_ok X G (c.fact 19 (f := .glo "Wire") rfl)), He.cls_ok (c.fact 20 (f := .cls "Wire") rfl), fun f hf => by
    simp only [List.mem_cons, List.not_mem_nil, or_false] at hf
    rcases hf with rfl | rfl
    · exact He.noat_ok (c.fact 21 (f := .noat "Wire" "_way") rfl)
    · exact He.noat_ok (c.fact 22 (f := .noat "Wire" "_sent") rfl)⟩
  have YShort : Xc K mg "Short" (He.ga K "Short") := Xh.xcB_ok m.1.1.1.1.1.1.1.2 (He.glo_ok X G (c.fact 28 (f := .glo "Short") rfl))
  have NShort_amount : PySem.W.findIn K (.ref (He.ga K "Short")) "amount" = some none := He.eqO_ok m.1.1.1.1.1.2
  have mBandError := (He.glo_ok X G (c.fact 29 (f := .glo "BandError") rfl))
  have eShort := of_decide_eq_true m.1.1.1.1.2
  have kShort_BandError := of_decide_eq_true m.1.1.1.2
  obtain ⟨d_added, D_added⟩ := c.def_ 2 (d := dD "_added" 9) rfl
  obtain ⟨d_compare, D_compare⟩ := c.def_ 3 (d := dD "compare" 10) rfl
  obtain ⟨d_minus, D_minus⟩ := c.def_ 1 (d := dD "minus" 8) rfl
  obtain ⟨d_plus, D_plus⟩ := c.def_ 0 (d := dD "plus" 7) rfl
  obtain ⟨d_smallest, D_smallest⟩ := c.def_ 4 (d := dD "smallest" 11) rfl
  obtain ⟨d_largest, D_largest⟩ := c.def_ 5 (d := dD "largest" 12) rfl
  obtain ⟨d_law_bag, D_law_bag⟩ := c.def_ 6 (d := dD "_law_bag" 20) rfl
  obtain ⟨d_law_draw, D_law_draw⟩ := c.def_ 7 (d := dD "_law_draw" 21) rfl
  obtain ⟨d_law_of, D_law_of⟩ := c.def_ 8 (d := dD "_law_of" 22) rfl
  obtain ⟨d_law_amount, D_law_amount⟩ := c.def_ 9 (d := dD "_law_amount" 23) rfl
  obtain ⟨d_law_sum, D_law_sum⟩ := c.def_ 10 (d := dD "_law_sum" 24) rfl
  obtain ⟨d_law_rest, D_law_rest⟩ := c.def_ 11 (d := dD "_law_rest" 25) rfl
  obtain ⟨d_law_less, D_law_less⟩ := c.def_ 13 (d := dD "_law_less" 27) rfl
  obtain ⟨d_law_min, D_law_min⟩ := c.def_ 14 (d := dD "_law_min" 28) rfl
  obtain ⟨d_law_max, D_law_max⟩ := c.def_ 15 (d := dD "_law_max" 29) rfl
  obtain ⟨d_law_scaled, D_law_scaled⟩ := c.def_ 12 (d := dD "_law_scaled" 26) rfl
  obtain ⟨d_law_same, D_law_same⟩ := c.def_ 17 (d := dD "_law_same" 31) rfl
  obtain ⟨d_law_some, D_law_some⟩ := c.def_ 18 (d := dD "_law_some" 32) rfl
  obtain ⟨d_law_part, D_law_part⟩ := c.def_ 19 (d := dD "_law_part" 33) rfl
  obtain ⟨d_law_all, D_law_all⟩ := c.def_ 16 (d := dD "_law_all" 30) rfl
  obtain ⟨d_Hop___init__, D_Hop___init__⟩ := c.def_ 27 (d := ⟨fun K => He.ma K (He.ga K "Hop") "__init__", "__init__", "Hop.__init__", defArgs (inClass (top 16) 0), defBody (inClass (top 16) 0), defScope (inClass (top 16) 0), [], []⟩) rfl
  obtain ⟨d_Hop_remember, D_Hop_remember⟩ := c.def_ 28 (d := ⟨fun K => He.ma K (He.ga K "Hop") "remember", "remember", "Hop.remember", defArgs (inClass (top 16) 1), defBody (inClass (top 16) 1), defScope (inClass (top 16) 1), [], []⟩) rfl
  obtain ⟨d_Hop_sent_after, D_Hop_sent_after⟩ := c.def_ 29 (d := ⟨fun K => He.ma K (He.ga K "Hop") "sent_after", "sent_after", "Hop.sent_after", defArgs (inClass (top 16) 2), defBody (inClass (top 16) 2), defScope (inClass (top 16) 2), [], []⟩) rfl
  obtain ⟨d_Hop_copy, D_Hop_copy⟩ := c.def_ 30 (d := ⟨fun K => He.ma K (He.ga K "Hop") "copy", "copy", "Hop.copy", defArgs (inClass (top 16) 4), defBody (inClass (top 16) 4), defScope (inClass (top 16) 4), [], []⟩) rfl
  obtain ⟨d_Buffer___init__, D_Buffer___init__⟩ := c.def_ 31 (d := ⟨fun K => He.ma K (He.ga K "Buffer") "__init__", "__init__", "Buffer.__init__", defArgs (inClass (top 14) 0), defBody (inClass (top 14) 0), defScope (inClass (top 14) 0), [], []⟩) rfl
  obtain ⟨d_Buffer_held, D_Buffer_held⟩ := c.def_ 32 (d := ⟨fun K => Hk.getter K (He.ma K (He.ga K "Buffer") "held"), "held", "Buffer.held", defArgs (inClass (top 14) 1), defBody (inClass (top 14) 1), defScope (inClass (top 14) 1), [], []⟩) rfl
  obtain ⟨d_Buffer_fullest, D_Buffer_fullest⟩ := c.def_ 33 (d := ⟨fun K => Hk.getter K (He.ma K (He.ga K "Buffer") "fullest"), "fullest", "Buffer.fullest", defArgs (inClass (top 14) 2), defBody (inClass (top 14) 2), defScope (inClass (top 14) 2), [], []⟩) rfl
  obtain ⟨d_Buffer_set_to, D_Buffer_set_to⟩ := c.def_ 34 (d := ⟨fun K => He.ma K (He.ga K "Buffer") "set_to", "set_to", "Buffer.set_to", defArgs (inClass (top 14) 5), defBody (inClass (top 14) 5), defScope (inClass (top 14) 5), [], []⟩) rfl
  obtain ⟨d_Buffer_take_in, D_Buffer_take_in⟩ := c.def_ 35 (d := ⟨fun K => He.ma K (He.ga K "Buffer") "take_in", "take_in", "Buffer.take_in", defArgs (inClass (top 14) 3), defBody (inClass (top 14) 3), defScope (inClass (top 14) 3), [], []⟩) rfl
  obtain ⟨d_Buffer_give, D_Buffer_give⟩ := c.def_ 36 (d := ⟨fun K => He.ma K (He.ga K "Buffer") "give", "give", "Buffer.give", defArgs (inClass (top 14) 4), defBody (inClass (top 14) 4), defScope (inClass (top 14) 4), [], []⟩) rfl
  obtain ⟨d_Wire___init__, D_Wire___init__⟩ := c.def_ 37 (d := ⟨fun K => He.ma K (He.ga K "Wire") "__init__", "__init__", "Wire.__init__", defArgs (inClass (top 18) 0), defBody (inClass (top 18) 0), defScope (inClass (top 18) 0), [], []⟩) rfl
  obtain ⟨d_Wire_put, D_Wire_put⟩ := c.def_ 38 (d := ⟨fun K => He.ma K (He.ga K "Wire") "put", "put", "Wire.put", defArgs (inClass (top 18) 1), defBody (inClass (top 18) 1), defScope (inClass (top 18) 1), [], []⟩) rfl
  obtain ⟨d_Wire_arriving, D_Wire_arriving⟩ := c.def_ 39 (d := ⟨fun K => He.ma K (He.ga K "Wire") "arriving", "arriving", "Wire.arriving", defArgs (inClass (top 18) 2), defBody (inClass (top 18) 2), defScope (inClass (top 18) 2), [], []⟩) rfl
  obtain ⟨d_Wire_under_way, D_Wire_under_way⟩ := c.def_ 40 (d := ⟨fun K => He.ma K (He.ga K "Wire") "under_way", "under_way", "Wire.under_way", defArgs (inClass (top 18) 3), defBody (inClass (top 18) 3), defScope (inClass (top 18) 3), [], []⟩) rfl
  obtain ⟨d_Short___init__, D_Short___init__⟩ := c.def_ 41 (d := ⟨fun K => He.ma K (He.ga K "Short") "__init__", "__init__", "Short.__init__", defArgs (inClass (top 4) 0), defBody (inClass (top 4) 0), defScope (inClass (top 4) 0), [], []⟩) rfl
  obtain ⟨d_Buffer_copy, D_Buffer_copy⟩ := c.def_ 42 (d := ⟨fun K => He.ma K (He.ga K "Buffer") "copy", "copy", "Buffer.copy", defArgs (inClass (top 14) 6), defBody (inClass (top 14) 6), defScope (inClass (top 14) 6), [], []⟩) rfl
  obtain ⟨d_Wire_copy, D_Wire_copy⟩ := c.def_ 43 (d := ⟨fun K => He.ma K (He.ga K "Wire") "copy", "copy", "Wire.copy", defArgs (inClass (top 18) 4), defBody (inClass (top 18) 4), defScope (inClass (top 18) 4), [], []⟩) rfl
  obtain ⟨d_law_short, D_law_short⟩ := c.def_ 22 (d := dD "_law_short" 36) rfl
  obtain ⟨d_law_piece, D_law_piece⟩ := c.def_ 21 (d := dD "_law_piece" 35) rfl
  obtain ⟨d_law_buffer_looks, D_law_buffer_looks⟩ := c.def_ 24 (d := dD "_law_buffer_looks" 38) rfl
  obtain ⟨d_law_buffer_deed, D_law_buffer_deed⟩ := c.def_ 23 (d := dD "_law_buffer_deed" 37) rfl
  obtain ⟨d_law_wire_deed, D_law_wire_deed⟩ := c.def_ 20 (d := dD "_law_wire_deed" 34) rfl
  obtain ⟨d_law_hop_deed, D_law_hop_deed⟩ := c.def_ 25 (d := dD "_law_hop_deed" 39) rfl
  obtain ⟨d_law, D_law⟩ := c.def_ 26 (d := dD "law" 40) rfl
  have e := hfa.symm.trans (He.glo_ok X G (c.fact 57 (f := .glo "law") rfl))
  cases e
  refine ⟨d_law, fun s v => (FunD.bindsA (ps := ["_law_script"]) D_law fun _ _ _ _ _ _ us hl => match us, hl with | [_], _ => rfl) s [v] rfl, fun base _ _ => ?_⟩
  have F_added := f_added (P := P) (w := w) (base := base) D_added (He.glo_ok X G (c.fact 33 (f := .glo "_added") rfl)) T1
  have Fcompare := f_compare (P := P) (w := w) (base := base) D_compare (He.glo_ok X G (c.fact 34 (f := .glo "compare") rfl)) 
  have Fminus := f_minus (P := P) (w := w) (base := base) D_minus (He.glo_ok X G (c.fact 32 (f := .glo "minus") rfl)) Fcompare F_added
  have Fplus := f_plus (P := P) (w := w) (base := base) D_plus (He.glo_ok X G (c.fact 31 (f := .glo "plus") rfl)) tup_ZERO F_added
  have Fsmallest := f_smallest (P := P) (w := w) (base := base) D_smallest (He.glo_ok X G (c.fact 35 (f := .glo "smallest") rfl)) Fcompare
  have Flargest := f_largest (P := P) (w := w) (base := base) D_largest (He.glo_ok X G (c.fact 36 (f := .glo "largest") rfl)) Fcompare
  have F_law_bag := f_law_bag (P := P) (w := w) (base := base) D_law_bag (He.glo_ok X G (c.fact 37 (f := .glo "_law_bag") rfl)) T0
  have F_law_draw := f_law_draw (P := P) (w := w) (base := base) D_law_draw (He.glo_ok X G (c.fact 38 (f := .glo "_law_draw") rfl)) T0
  have F_law_of := f_law_of (P := P) (w := w) (base := base) D_law_of (He.glo_ok X G (c.fact 39 (f := .glo "_law_of") rfl)) T0 F_law_draw
  have F_law_amount := f_law_amount (P := P) (w := w) (base := base) D_law_amount (He.glo_ok X G (c.fact 40 (f := .glo "_law_amount") rfl)) T0
  have F_law_sum := f_law_sum (P := P) (w := w) (base := base) D_law_sum (He.glo_ok X G (c.fact 41 (f := .glo "_law_sum") rfl)) F_law_amount
  have F_law_rest := f_law_rest (P := P) (w := w) (base := base) D_law_rest (He.glo_ok X G (c.fact 42 (f := .glo "_law_rest") rfl)) T0 F_law_amount
  have F_law_less := f_law_less (P := P) (w := w) (base := base) D_law_less (He.glo_ok X G (c.fact 44 (f := .glo "_law_less") rfl)) 
  have F_law_min := f_law_min (P := P) (w := w) (base := base) D_law_min (He.glo_ok X G (c.fact 45 (f := .glo "_law_min") rfl)) F_law_less
  have F_law_max := f_law_max (P := P) (w := w) (base := base) D_law_max (He.glo_ok X G (c.fact 46 (f := .glo "_law_max") rfl)) F_law_less
  have F_law_scaled := f_law_scaled (P := P) (w := w) (base := base) D_law_scaled (He.glo_ok X G (c.fact 43 (f := .glo "_law_scaled") rfl)) F_law_amount
  have F_law_same0 : Fn P w K mg base 0 "_law_same" (spLike K 0) := fn_none D_law_same (He.glo_ok X G (c.fact 48 (f := .glo "_law_same") rfl))
  have F_law_same1 := f_law_same D_law_same (He.glo_ok X G (c.fact 48 (f := .glo "_law_same") rfl)) T0 0 F_law_same0
  have F_law_same2 := f_law_same D_law_same (He.glo_ok X G (c.fact 48 (f := .glo "_law_same") rfl)) T0 1 F_law_same1
  have F_law_same3 := f_law_same D_law_same (He.glo_ok X G (c.fact 48 (f := .glo "_law_same") rfl)) T0 2 F_law_same2
  have F_law_same4 := f_law_same D_law_same (He.glo_ok X G (c.fact 48 (f := .glo "_law_same") rfl)) T0 3 F_law_same3
  have F_law_same := F_law_same4
  have F_law_some := f_law_some (P := P) (w := w) (base := base) D_law_some (He.glo_ok X G (c.fact 49 (f := .glo "_law_some") rfl)) T0 F_law_draw F_law_of F_law_amount
  have F_law_part := f_law_part (P := P) (w := w) (base := base) D_law_part (He.glo_ok X G (c.fact 50 (f := .glo "_law_part") rfl)) T0 F_law_of F_law_scaled
  have F_law_all := f_law_all (P := P) (w := w) (base := base) D_law_all (He.glo_ok X G (c.fact 47 (f := .glo "_law_all") rfl)) F_law_sum
  have Gplus := g_plus (P := P) (w := w) (base := base) D_plus (He.glo_ok X G (c.fact 31 (f := .glo "plus") rfl)) tup_ZERO F_added
  have OHop___init__ := f_Hop___init__ (P := P) (w := w) (base := base) D_Hop___init__ THop
  have RHop := cr_of (He.glo_ok X G (c.fact 0 (f := .glo "Hop") rfl)) (He.mkr_ok (c.fact 5 (f := .mkr "Hop") rfl)) (raw_meth D_Hop___init__ OHop___init__ (fun _ _ _ _ _ _ us hl => match us, hl with | [_, _, _], _ => rfl))
  have OHop_remember := f_Hop_remember (P := P) (w := w) (base := base) D_Hop_remember THop
  have MHop_remember := mt_of (He.cls_ok (c.fact 1 (f := .cls "Hop") rfl)) (He.meth_ok (c.fact 6 (f := .meth "Hop" "remember") rfl)) (raw_meth D_Hop_remember OHop_remember (fun _ _ _ _ _ _ us hl => match us, hl with | [_, _, _], _ => rfl))
  have OHop_sent_after := f_Hop_sent_after (P := P) (w := w) (base := base) D_Hop_sent_after THop Gplus
  have MHop_sent_after := mt_of (He.cls_ok (c.fact 1 (f := .cls "Hop") rfl)) (He.meth_ok (c.fact 7 (f := .meth "Hop" "sent_after") rfl)) (raw_meth D_Hop_sent_after OHop_sent_after (fun _ _ _ _ _ _ us hl => match us, hl with | [_, _, _], _ => rfl))
  have OHop_copy := f_Hop_copy (P := P) (w := w) (base := base) D_Hop_copy Tdict THop RHop
  have MHop_copy := mt_of (He.cls_ok (c.fact 1 (f := .cls "Hop") rfl)) (He.meth_ok (c.fact 8 (f := .meth "Hop" "copy") rfl)) (raw_meth D_Hop_copy OHop_copy (fun _ _ _ _ _ _ us hl => match us, hl with | [_], _ => rfl))
  have OBuffer___init__ := f_Buffer___init__ (P := P) (w := w) (base := base) D_Buffer___init__ tup_ZERO TBuffer
  have RBuffer := cr_of (He.glo_ok X G (c.fact 9 (f := .glo "Buffer") rfl)) (He.mkr_ok (c.fact 14 (f := .mkr "Buffer") rfl)) (raw_meth D_Buffer___init__ OBuffer___init__ (fun _ _ _ _ _ _ us hl => match us, hl with | [_, _], _ => rfl))
  have OBuffer_held := f_Buffer_held (P := P) (w := w) (base := base) D_Buffer_held TBuffer
  have PBuffer_held : Pr P w K mg base 1 (He.ga K "Buffer") "held" (spBufHeld (He.ga K "Buffer") K) := ⟨_, _, _, He.cls_ok (c.fact 10 (f := .cls "Buffer") rfl), Hk.propB_ok m.1.1.1.1.1.1.1.1.1, OBuffer_held, FunD.bindsN D_Buffer_held (fun _ _ _ _ _ _ us hl => match us, hl with | [_], _ => rfl)⟩
  have OBuffer_fullest := f_Buffer_fullest (P := P) (w := w) (base := base) D_Buffer_fullest TBuffer
  have PBuffer_fullest : Pr P w K mg base 1 (He.ga K "Buffer") "fullest" (spBufFullest (He.ga K "Buffer") K) := ⟨_, _, _, He.cls_ok (c.fact 10 (f := .cls "Buffer") rfl), Hk.propB_ok m.1.1.1.1.1.1.1.1.2, OBuffer_fullest, FunD.bindsN D_Buffer_fullest (fun _ _ _ _ _ _ us hl => match us, hl with | [_], _ => rfl)⟩
  have OBuffer_set_to := f_Buffer_set_to (P := P) (w := w) (base := base) D_Buffer_set_to TBuffer Flargest
  have MBuffer_set_to := mt_of (He.cls_ok (c.fact 10 (f := .cls "Buffer") rfl)) (He.meth_ok (c.fact 15 (f := .meth "Buffer" "set_to") rfl)) (raw_meth D_Buffer_set_to OBuffer_set_to (fun _ _ _ _ _ _ us hl => match us, hl with | [_, _], _ => rfl))
  have OBuffer_take_in := f_Buffer_take_in (P := P) (w := w) (base := base) D_Buffer_take_in TBuffer Fplus Fsmallest Fminus MBuffer_set_to
  have MBuffer_take_in := mt_of (He.cls_ok (c.fact 10 (f := .cls "Buffer") rfl)) (He.meth_ok (c.fact 16 (f := .meth "Buffer" "take_in") rfl)) (raw_meth D_Buffer_take_in OBuffer_take_in (fun _ _ _ _ _ _ us hl => match us, hl with | [_, _], _ => rfl))
  have OBuffer_give := f_Buffer_give (P := P) (w := w) (base := base) D_Buffer_give TBuffer Fcompare Fminus
  have MBuffer_give := mt_of (He.cls_ok (c.fact 10 (f := .cls "Buffer") rfl)) (He.meth_ok (c.fact 17 (f := .meth "Buffer" "give") rfl)) (raw_meth D_Buffer_give OBuffer_give (fun _ _ _ _ _ _ us hl => match us, hl with | [_, _], _ => rfl))
  have OWire___init__ := f_Wire___init__ (P := P) (w := w) (base := base) D_Wire___init__ TWire
  have RWire := cr_of (He.glo_ok X G (c.fact 19 (f := .glo "Wire") rfl)) (He.mkr_ok (c.fact 23 (f := .mkr "Wire") rfl)) (raw_meth D_Wire___init__ OWire___init__ (fun _ _ _ _ _ _ us hl => match us, hl with | [_, _], _ => rfl))
  have OWire_put := f_Wire_put (P := P) (w := w) (base := base) D_Wire_put TWire
  have MWire_put := mt_of (He.cls_ok (c.fact 20 (f := .cls "Wire") rfl)) (He.meth_ok (c.fact 24 (f := .meth "Wire" "put") rfl)) (raw_meth D_Wire_put OWire_put (fun _ _ _ _ _ _ us hl => match us, hl with | [_, _, _], _ => rfl))
  have OWire_arriving := f_Wire_arriving (P := P) (w := w) (base := base) D_Wire_arriving tup_ZERO TWire
  have MWire_arriving := mt_of (He.cls_ok (c.fact 20 (f := .cls "Wire") rfl)) (He.meth_ok (c.fact 25 (f := .meth "Wire" "arriving") rfl)) (raw_meth D_Wire_arriving OWire_arriving (fun _ _ _ _ _ _ us hl => match us, hl with | [_, _], _ => rfl))
  have OWire_under_way := f_Wire_under_way (P := P) (w := w) (base := base) D_Wire_under_way T0 tup_ZERO TWire Gplus
  have MWire_under_way := mt_of (He.cls_ok (c.fact 20 (f := .cls "Wire") rfl)) (He.meth_ok (c.fact 26 (f := .meth "Wire" "under_way") rfl)) (raw_meth D_Wire_under_way OWire_under_way (fun _ _ _ _ _ _ us hl => match us, hl with | [_, _], _ => rfl))
  have G_law_same0 : FnT P w K mg base 0 "_law_same" (spLike K 0) := fnT_none (ps := ["_law_told", "_law_due"]) D_law_same (He.glo_ok X G (c.fact 48 (f := .glo "_law_same") rfl)) (fun _ _ _ _ _ _ us hl => match us, hl with | [_, _], _ => rfl) (fun _ _ _ _ h => h)
  have G_law_same1 := h_law_same D_law_same (He.glo_ok X G (c.fact 48 (f := .glo "_law_same") rfl)) T0 0 G_law_same0
  have G_law_same2 := h_law_same D_law_same (He.glo_ok X G (c.fact 48 (f := .glo "_law_same") rfl)) T0 1 G_law_same1
  have G_law_same3 := h_law_same D_law_same (He.glo_ok X G (c.fact 48 (f := .glo "_law_same") rfl)) T0 2 G_law_same2
  have G_law_same4 := h_law_same D_law_same (He.glo_ok X G (c.fact 48 (f := .glo "_law_same") rfl)) T0 3 G_law_same3
  have G_law_same := G_law_same4
  have OShort___init__ := f_Short___init__ (P := P) (w := w) (base := base) D_Short___init__ YShort NShort_amount
  have XShort : Xi P w K mg base 1 "Short" (He.ga K "Short") _ := Xh.xi_of YShort m.1.1.1.1.1.1.2 OShort___init__ (FunD.bindsN D_Short___init__ (fun _ _ _ _ _ _ us hl => match us, hl with | [_, _], _ => rfl))
  have ZBuffer_give := x_Buffer_give (P := P) (w := w) (base := base) D_Buffer_give TBuffer Fcompare Fminus XShort
  have XBuffer_give : MtX P w K mg base 3 (He.ga K "Buffer") "give" _ := ⟨_, _, _, He.cls_ok (c.fact 10 (f := .cls "Buffer") rfl), He.meth_ok (c.fact 17 (f := .meth "Buffer" "give") rfl), ZBuffer_give, FunD.bindsN D_Buffer_give (fun _ _ _ _ _ _ us hl => match us, hl with | [_, _], _ => rfl)⟩
  have OBuffer_copy := f_Buffer_copy (P := P) (w := w) (base := base) D_Buffer_copy TBuffer RBuffer
  have MBuffer_copy := mt_of (He.cls_ok (c.fact 10 (f := .cls "Buffer") rfl)) (He.meth_ok (c.fact 18 (f := .meth "Buffer" "copy") rfl)) (raw_meth D_Buffer_copy OBuffer_copy (fun _ _ _ _ _ _ us hl => match us, hl with | [_], _ => rfl))
  have OWire_copy := f_Wire_copy (P := P) (w := w) (base := base) D_Wire_copy Tdict TWire RWire
  have MWire_copy := mt_of (He.cls_ok (c.fact 20 (f := .cls "Wire") rfl)) (He.meth_ok (c.fact 27 (f := .meth "Wire" "copy") rfl)) (raw_meth D_Wire_copy OWire_copy (fun _ _ _ _ _ _ us hl => match us, hl with | [_], _ => rfl))
  have F_law_short := f_law_short (P := P) (w := w) (base := base) D_law_short (He.glo_ok X G (c.fact 53 (f := .glo "_law_short") rfl)) T0 XBuffer_give YShort NShort_amount eShort kShort_BandError mBandError G_law_same
  have F_law_piece := f_law_piece (P := P) (w := w) (base := base) D_law_piece (He.glo_ok X G (c.fact 52 (f := .glo "_law_piece") rfl)) F_law_part
  have F_law_buffer_looks := f_law_buffer_looks (P := P) (w := w) (base := base) D_law_buffer_looks (He.glo_ok X G (c.fact 55 (f := .glo "_law_buffer_looks") rfl)) TBuffer PBuffer_held PBuffer_fullest F_law_same
  have F_law_buffer_deed := f_law_buffer_deed (P := P) (w := w) (base := base) D_law_buffer_deed (He.glo_ok X G (c.fact 54 (f := .glo "_law_buffer_deed") rfl)) T0 TBuffer F_law_draw F_law_of F_law_some F_law_sum F_law_rest F_law_min F_law_max F_law_same F_law_piece F_law_short MBuffer_take_in MBuffer_give MBuffer_set_to
  have F_law_wire_deed := f_law_wire_deed (P := P) (w := w) (base := base) D_law_wire_deed (He.glo_ok X G (c.fact 51 (f := .glo "_law_wire_deed") rfl)) T0 TWire F_law_draw F_law_some F_law_all F_law_same MWire_put MWire_arriving MWire_under_way
  have F_law_hop_deed := f_law_hop_deed (P := P) (w := w) (base := base) D_law_hop_deed (He.glo_ok X G (c.fact 56 (f := .glo "_law_hop_deed") rfl)) T0 THop F_law_draw F_law_of F_law_some F_law_all F_law_same MHop_remember MHop_sent_after
  exact f_law (P := P) (w := w) (base := base) D_law (He.glo_ok X G (c.fact 57 (f := .glo "law") rfl)) T0 Tdict TWire THop TBuffer RWire RHop RBuffer F_law_bag F_law_draw F_law_of F_law_some F_law_same F_law_buffer_looks F_law_wire_deed F_law_hop_deed F_law_buffer_deed MWire_copy MWire_arriving MHop_copy MHop_sent_after MBuffer_copy
end YkHead
open PySem PySem.W PySem.Calls PyProof.Rows in
theorem PySem.Challenge.cw_bandheld_k31_wires_buffers_hops_told_holds : PySem.Challenge.rw_bandheld_k31_wires_buffers_hops_told.Holds := by
  w_on; o_law
  refine HandSHeadRun.head_imp (r := OpenLaw.row PySem.Challenge.rw_bandheld_k31_wires_buffers_hops_told) (q := view (OpenLaw.row PySem.Challenge.rw_bandheld_k31_wires_buffers_hops_told).prog [0, 40]) (H := YkHead.hk) (ob := YkHead.ob) (M := 8000) (loose := YkHead.loose) (d := HandSHeadRun.topDef (OpenLaw.row PySem.Challenge.rw_bandheld_k31_wires_buffers_hops_told).prog 40) (kwd := []) YkHead.ob_eq YkHead.run
    (by kernel_rfl) (by kernel_rfl) (by kernel_rfl) (by rfl) (by first | assumption | decide +kernel) (by decide +kernel) ⟨rfl, rfl, rfl, rfl, rfl, by decide +kernel⟩ ?hw ?hc
  case hw => w_witness2
  case hc =>
    refine L2.walk_ofE (l := PySem.Challenge.rw_bandheld_k31_wires_buffers_hops_told) (n := 63) (k := 8) (x := "_law_script") (CX := L2.CX0) rfl (by decide) (by kernel_rfl) ⟨rfl, by decide, by decide⟩ ?F (fun _ _ _ _ z => z)
    intro w mg fa h Y G hmg0
    obtain ⟨K, KX, c⟩ := Y
    have hmg : mg ("law" : PySem.Str) = some (.ref fa) := by
      have e : (HandSHeadRun.topDef (OpenLaw.row PySem.Challenge.rw_bandheld_k31_wires_buffers_hops_told).prog 40).name = ("law" : PySem.Str) := by kernel_rfl
      rw [← e]
      exact hmg0
    obtain ⟨fd, hb, hF⟩ := YkHead.facts (P := (PySem.Challenge.rw_bandheld_k31_wires_buffers_hops_told).prog) (w := w) KX G hmg c
    exact ⟨K, fd, Yk.spLaw31 K, KX, hb, fun H a ns hl _ hS => ⟨a, ns, rfl, hS, hl, fun _ => rfl⟩, hF⟩

